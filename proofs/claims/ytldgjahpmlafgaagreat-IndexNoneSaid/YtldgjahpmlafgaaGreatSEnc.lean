/- Contracts, joined: SPart, SList1, SElem1, SList2, SList3, SList4, SElem2, SElem3, SElem4, SEnc. -/
import Derived.Test.YtldgjahpmlafgaaGreatJSWr
namespace Go.Proofs.YtldgjahpmlafgaaGreat
section
open Go.RowKit

section
variable {C K Y X B : Nat} {w : World} {s : WS} {b o : Nat}
end
end
section
open Go.RowKit

section
variable {C K Y X B : Nat} {w : World} {s : WS} {b o : Nat}
end
end
section
open Go.RowKit

section
variable {C K Y X B : Nat} {w : World} {s : WS} {b o : Nat}
theorem adds_field : Adds (eField wayP) 29 := fun x s => by
  have a0 := adds_num 2 x.id (s)
  have a1 := adds_text 24 x.name (wNum 2 x.id (s))
  have a2 := adds_num 1 x.bits (pText 24 x.name (wNum 2 x.id (s)))
  show (wNum 1 x.bits (pText 24 x.name (wNum 2 x.id (s)))).l.length ≤ _
  omega
theorem adds_header : Adds (eHeader wayP) 94 := fun x s => by
  have a0 := adds_num 2 x.id (s)
  have a1 := adds_text 24 x.name (wNum 2 x.id (s))
  have a2 := adds_list (adds_num 2) 32 x.fields (pText 24 x.name (wNum 2 x.id (s)))
  show (pList 32 (wNum 2) x.fields (pText 24 x.name (wNum 2 x.id (s)))).l.length ≤ _
  omega
theorem adds_case : Adds eCase 36 := fun x s => by
  have a0 := adds_val x.val (s)
  have a1 := adds_val x.mask (wVal x.val (s))
  have a2 := adds_num 2 x.next (wVal x.mask (wVal x.val (s)))
  show (wNum 2 x.next (wVal x.mask (wVal x.val (s)))).l.length ≤ _
  omega
theorem adds_param : Adds (eParam wayP) 27 := fun x s => by
  have a0 := adds_text 24 x.name (s)
  have a1 := adds_num 1 x.bits (pText 24 x.name (s))
  show (wNum 1 x.bits (pText 24 x.name (s))).l.length ≤ _
  omega
theorem adds_prim : Adds ePrim 23 := fun x s => by
  have a0 := adds_num 1 x.op (s)
  have a1 := adds_num 2 x.dst (wNum 1 x.op (s))
  have a2 := adds_num 1 x.kind (wNum 2 x.dst (wNum 1 x.op (s)))
  have a3 := adds_num 2 x.n (wNum 1 x.kind (wNum 2 x.dst (wNum 1 x.op (s))))
  have a4 := adds_val x.val (wNum 2 x.n (wNum 1 x.kind (wNum 2 x.dst (wNum 1 x.op (s)))))
  show (wVal x.val (wNum 2 x.n (wNum 1 x.kind (wNum 2 x.dst (wNum 1 x.op (s)))))).l.length ≤ _
  omega
theorem adds_key : Adds (eKey wayP) 29 := fun x s => by
  have a0 := adds_text 24 x.name (s)
  have a1 := adds_num 2 x.field (pText 24 x.name (s))
  have a2 := adds_num 1 x.kind (wNum 2 x.field (pText 24 x.name (s)))
  show (wNum 1 x.kind (wNum 2 x.field (pText 24 x.name (s)))).l.length ≤ _
  omega
theorem adds_stage : Adds eStage 4 := fun x s => by
  have a0 := adds_num 2 x.table (s)
  have a1 := adds_num 2 x.header (wNum 2 x.table (s))
  show (wNum 2 x.header (wNum 2 x.table (s))).l.length ≤ _
  omega
end
end
section
open Go.RowKit

section
variable {C K Y X B : Nat} {w : World} {s : WS} {b o : Nat}
end
end
section
open Go.RowKit

section
variable {C K Y X B : Nat} {w : World} {s : WS} {b o : Nat}
end
end
section
open Go.RowKit

section
variable {C K Y X B : Nat} {w : World} {s : WS} {b o : Nat}
end
end
section
open Go.RowKit

section
variable {C K Y X B : Nat} {w : World} {s : WS} {b o : Nat}
theorem adds_state : Adds (eState wayP) 226 := fun x s => by
  have a0 := adds_num 2 x.id (s)
  have a1 := adds_num 2 x.header (wNum 2 x.id (s))
  have a2 := adds_num 2 x.select (wNum 2 x.header (wNum 2 x.id (s)))
  have a3 := adds_list adds_case 6 x.cases (wNum 2 x.select (wNum 2 x.header (wNum 2 x.id (s))))
  have a4 := adds_num 2 x.dflt (pList 6 eCase x.cases (wNum 2 x.select (wNum 2 x.header (wNum 2 x.id (s)))))
  show (wNum 2 x.dflt (pList 6 eCase x.cases (wNum 2 x.select (wNum 2 x.header (wNum 2 x.id (s)))))).l.length ≤ _
  omega
theorem adds_action : Adds (eAction wayP) 818 := fun x s => by
  have a0 := adds_num 2 x.id (s)
  have a1 := adds_text 24 x.name (wNum 2 x.id (s))
  have a2 := adds_list adds_param 4 x.params (pText 24 x.name (wNum 2 x.id (s)))
  have a3 := adds_list adds_prim 12 x.body (pList 4 (eParam wayP) x.params (pText 24 x.name (wNum 2 x.id (s))))
  have a4 := adds_text 400 x.restr (pList 12 ePrim x.body (pList 4 (eParam wayP) x.params (pText 24 x.name (wNum 2 x.id (s)))))
  show (pText 400 x.restr (pList 12 ePrim x.body (pList 4 (eParam wayP) x.params (pText 24 x.name (wNum 2 x.id (s)))))).l.length ≤ _
  omega
theorem adds_grant : Adds (eGrant wayP) 10 := fun x s => by
  have a0 := adds_num 2 x.table (s)
  have a1 := adds_truth x.read (wNum 2 x.table (s))
  have a2 := adds_truth x.write (wTruth x.read (wNum 2 x.table (s)))
  have a3 := adds_list adds_truth 4 x.keys (wTruth x.write (wTruth x.read (wNum 2 x.table (s))))
  show (pList 4 wTruth x.keys (wTruth x.write (wTruth x.read (wNum 2 x.table (s))))).l.length ≤ _
  omega
theorem adds_ref : Adds eRef 9 := fun x s => by
  have a0 := adds_num 2 x.table (s)
  have a1 := adds_num 1 x.key (wNum 2 x.table (s))
  have a2 := adds_num 2 x.action (wNum 1 x.key (wNum 2 x.table (s)))
  have a3 := adds_num 1 x.param (wNum 2 x.action (wNum 1 x.key (wNum 2 x.table (s))))
  have a4 := adds_num 2 x.toTable (wNum 1 x.param (wNum 2 x.action (wNum 1 x.key (wNum 2 x.table (s)))))
  have a5 := adds_num 1 x.toKey (wNum 2 x.toTable (wNum 1 x.param (wNum 2 x.action (wNum 1 x.key (wNum 2 x.table (s))))))
  show (wNum 1 x.toKey (wNum 2 x.toTable (wNum 1 x.param (wNum 2 x.action (wNum 1 x.key (wNum 2 x.table (s))))))).l.length ≤ _
  omega
end
end
section
open Go.RowKit

section
variable {C K Y X B : Nat} {w : World} {s : WS} {b o : Nat}
theorem adds_table : Adds (eTable wayP) 648 := fun x s => by
  have a0 := adds_num 2 x.id (s)
  have a1 := adds_text 24 x.name (wNum 2 x.id (s))
  have a2 := adds_list adds_key 4 x.keys (pText 24 x.name (wNum 2 x.id (s)))
  have a3 := adds_list (adds_num 2) 12 x.actions (pList 4 (eKey wayP) x.keys (pText 24 x.name (wNum 2 x.id (s))))
  have a4 := adds_num 2 x.dflt (pList 12 (wNum 2) x.actions (pList 4 (eKey wayP) x.keys (pText 24 x.name (wNum 2 x.id (s)))))
  have a5 := adds_list adds_val 4 x.args (wNum 2 x.dflt (pList 12 (wNum 2) x.actions (pList 4 (eKey wayP) x.keys (pText 24 x.name (wNum 2 x.id (s))))))
  have a6 := adds_num 2 x.size (pList 4 wVal x.args (wNum 2 x.dflt (pList 12 (wNum 2) x.actions (pList 4 (eKey wayP) x.keys (pText 24 x.name (wNum 2 x.id (s)))))))
  have a7 := adds_text 400 x.restr (wNum 2 x.size (pList 4 wVal x.args (wNum 2 x.dflt (pList 12 (wNum 2) x.actions (pList 4 (eKey wayP) x.keys (pText 24 x.name (wNum 2 x.id (s))))))))
  show (pText 400 x.restr (wNum 2 x.size (pList 4 wVal x.args (wNum 2 x.dflt (pList 12 (wNum 2) x.actions (pList 4 (eKey wayP) x.keys (pText 24 x.name (wNum 2 x.id (s))))))))).l.length ≤ _
  omega
theorem adds_role : Adds (eRole wayP) 139 := fun x s => by
  have a0 := adds_num 2 x.id (s)
  have a1 := adds_text 24 x.name (wNum 2 x.id (s))
  have a2 := adds_list adds_grant 8 x.grants (pText 24 x.name (wNum 2 x.id (s)))
  have a3 := adds_list (adds_num 2) 12 x.actions (pList 8 (eGrant wayP) x.grants (pText 24 x.name (wNum 2 x.id (s))))
  have a4 := adds_num 2 x.quota (pList 12 (wNum 2) x.actions (pList 8 (eGrant wayP) x.grants (pText 24 x.name (wNum 2 x.id (s)))))
  have a5 := adds_truth x.audit (wNum 2 x.quota (pList 12 (wNum 2) x.actions (pList 8 (eGrant wayP) x.grants (pText 24 x.name (wNum 2 x.id (s))))))
  show (wTruth x.audit (wNum 2 x.quota (pList 12 (wNum 2) x.actions (pList 8 (eGrant wayP) x.grants (pText 24 x.name (wNum 2 x.id (s))))))).l.length ≤ _
  omega
end
end
section
open Go.RowKit

section
variable {C K Y X B : Nat} {w : World} {s : WS} {b o : Nat}
theorem adds_schema : Adds (eSchema wayP) 20366 := fun x s => by
  have a0 := adds_num 2 x.maxBatch (s)
  have a1 := adds_num 2 x.budget (wNum 2 x.maxBatch (s))
  have a2 := adds_list adds_field 32 x.fields (wNum 2 x.budget (wNum 2 x.maxBatch (s)))
  have a3 := adds_list adds_header 8 x.headers (pList 32 (eField wayP) x.fields (wNum 2 x.budget (wNum 2 x.maxBatch (s))))
  have a4 := adds_list adds_state 12 x.states (pList 8 (eHeader wayP) x.headers (pList 32 (eField wayP) x.fields (wNum 2 x.budget (wNum 2 x.maxBatch (s)))))
  have a5 := adds_list adds_action 12 x.actions (pList 12 (eState wayP) x.states (pList 8 (eHeader wayP) x.headers (pList 32 (eField wayP) x.fields (wNum 2 x.budget (wNum 2 x.maxBatch (s))))))
  have a6 := adds_list adds_table 8 x.tables (pList 12 (eAction wayP) x.actions (pList 12 (eState wayP) x.states (pList 8 (eHeader wayP) x.headers (pList 32 (eField wayP) x.fields (wNum 2 x.budget (wNum 2 x.maxBatch (s)))))))
  have a7 := adds_list adds_stage 12 x.stages (pList 8 (eTable wayP) x.tables (pList 12 (eAction wayP) x.actions (pList 12 (eState wayP) x.states (pList 8 (eHeader wayP) x.headers (pList 32 (eField wayP) x.fields (wNum 2 x.budget (wNum 2 x.maxBatch (s))))))))
  have a8 := adds_list adds_role 6 x.roles (pList 12 eStage x.stages (pList 8 (eTable wayP) x.tables (pList 12 (eAction wayP) x.actions (pList 12 (eState wayP) x.states (pList 8 (eHeader wayP) x.headers (pList 32 (eField wayP) x.fields (wNum 2 x.budget (wNum 2 x.maxBatch (s)))))))))
  have a9 := adds_list adds_ref 8 x.refs (pList 6 (eRole wayP) x.roles (pList 12 eStage x.stages (pList 8 (eTable wayP) x.tables (pList 12 (eAction wayP) x.actions (pList 12 (eState wayP) x.states (pList 8 (eHeader wayP) x.headers (pList 32 (eField wayP) x.fields (wNum 2 x.budget (wNum 2 x.maxBatch (s))))))))))
  show (pList 8 eRef x.refs (pList 6 (eRole wayP) x.roles (pList 12 eStage x.stages (pList 8 (eTable wayP) x.tables (pList 12 (eAction wayP) x.actions (pList 12 (eState wayP) x.states (pList 8 (eHeader wayP) x.headers (pList 32 (eField wayP) x.fields (wNum 2 x.budget (wNum 2 x.maxBatch (s))))))))))).l.length ≤ _
  omega
end
end
section
open Go.RowKit

def MonoP {α : Type} (P : CellP α) : Prop := ∀ B B' w cs x, B ≤ B' → P B w cs x → P B' w cs x
theorem RowV.mono {α : Type} {P : CellP α} (hP : MonoP P) {sz B B' : Nat} {w : World} {v : Value} {xs : List α} (hB : B ≤ B') (hr : RowV sz P B w v xs) : RowV sz P B' w v xs := by
  obtain ⟨A, n, cap, e1, e2, e3, e4, e5⟩ := hr
  exact ⟨A, n, cap, e1, e2, e3, e4, e5.imp id fun ⟨b, o, e6, e7⟩ => ⟨b, o, e6, fun i x hx => by
    obtain ⟨h1, cs, h2, h3⟩ := e7 i x hx
    exact ⟨by omega, cs, h2, hP _ _ _ _ _ hB h3⟩⟩⟩
theorem mono_int : MonoP I64V := fun _ _ _ _ _ _ h => h
theorem mono_bool : MonoP BoolV := fun _ _ _ _ _ _ h => h
theorem mono_val : MonoP ValV := fun _ _ _ _ _ _ h => h
theorem mono_field : MonoP FieldV := fun _ _ _ _ _ _ h => h
theorem mono_header : MonoP HeaderV := fun _ _ _ _ _ hb ⟨v, e, h1, h2, h3⟩ => ⟨v, e, h1, h2, h3.mono mono_int hb⟩
theorem mono_case : MonoP CaseV := fun _ _ _ _ _ _ h => h
theorem mono_state : MonoP StateV := fun _ _ _ _ _ hb ⟨v, e, h1, h2, h3, h4, h5⟩ => ⟨v, e, h1, h2, h3, h4.mono mono_case hb, h5⟩
theorem mono_param : MonoP ParamV := fun _ _ _ _ _ _ h => h
theorem mono_prim : MonoP PrimV := fun _ _ _ _ _ _ h => h
theorem mono_action : MonoP ActionV := fun _ _ _ _ _ hb ⟨v, u, e, h1, h2, h3, h4, h5⟩ => ⟨v, u, e, h1, h2, h3.mono mono_param hb, h4.mono mono_prim hb, h5⟩
theorem mono_key : MonoP KeyV := fun _ _ _ _ _ _ h => h
theorem mono_table : MonoP TableV := fun _ _ _ _ _ hb ⟨v, u, t, e, h1, h2, h3, h4, h5, h6, h7⟩ => ⟨v, u, t, e, h1, h2, h3.mono mono_key hb, h4.mono mono_int hb, h5, h6.mono mono_val hb, h7⟩
theorem mono_stage : MonoP StageV := fun _ _ _ _ _ _ h => h
theorem mono_grant : MonoP GrantV := fun _ _ _ _ _ hb ⟨v, e, h1, h2⟩ => ⟨v, e, h1, h2.mono mono_bool hb⟩
theorem mono_role : MonoP RoleV := fun _ _ _ _ _ hb ⟨v, u, e, h1, h2, h3, h4, h5⟩ => ⟨v, u, e, h1, h2, h3.mono mono_grant hb, h4.mono mono_int hb, h5⟩
theorem mono_ref : MonoP RefV := fun _ _ _ _ _ _ h => h
theorem mono_schema : MonoP SchemaV := fun _ _ _ _ _ hb ⟨v0, v1, v2, v3, v4, v5, v6, v7, e, h0, h1, h2, h3, h4, h5, h6, h7, h8⟩ =>
  ⟨v0, v1, v2, v3, v4, v5, v6, v7, e, h0.mono mono_field hb, h1.mono mono_header hb, h2.mono mono_state hb, h3.mono mono_action hb, h4.mono mono_table hb, h5.mono mono_stage hb, h6.mono mono_role hb, h7.mono mono_ref hb, h8⟩

section
variable {X B : Nat} {w : World} {s : WS} {v : Value}
theorem own_len {w : World} {B : Nat} {v : Value} {l : List Nat} (h : Own w B v l) : ∃ A n cap, v = .slice A n cap ∧ n = l.length := by
  rcases h.2 with ⟨rfl, h0⟩ | ⟨g, cap, cur, rfl, _⟩
  · exact ⟨_, _, _, rfl, h0.symm⟩
  · exact ⟨_, _, _, rfl, rfl⟩
end
/-- Encode returned the bytes l, a row of its own, and the error e. -/
def EncRet (l : List Nat) (e : Int) (w : World) (en : Ending) (w' : World) : Prop := ∃ v, en = .returned (.tuple #[v, .int .i64 e]) ∧ Own w' w.heap.size v l ∧ Below w.heap.size w w'
end
end Go.Proofs.YtldgjahpmlafgaaGreat
