/- Encode of package schema: what it returns. -/
import Derived.Test.YtkennilcojbbgaaSElem4
namespace Go.Proofs.Ytkennilcojbbgaa
open Go.RowKit

def MonoP {α : Type} (P : CellP α) : Prop := ∀ B B' w cs x, B ≤ B' → P B w cs x → P B' w cs x
theorem RowV.mono {α : Type} {P : CellP α} (hP : MonoP P) {sz B B' : Nat} {w : World} {v : Value} {xs : List α} (hB : B ≤ B') (hr : RowV sz P B w v xs) : RowV sz P B' w v xs := by
  obtain ⟨A, n, cap, e1, e2, e3, e4, e5⟩ := hr
  exact ⟨A, n, cap, e1, e2, e3, e4, e5.imp id fun ⟨b, o, e6, e7⟩ => ⟨b, o, e6, fun i x hx => by
    obtain ⟨h1, cs, h2, h3⟩ := e7 i x hx
    exact ⟨by omega, cs, h2, hP _ _ _ _ _ hB h3⟩⟩⟩
theorem mono_int : MonoP I64V := fun _ _ _ _ _ _ h => h
theorem mono_bool : MonoP BoolV := fun _ _ _ _ _ _ h => h
theorem mono_val : MonoP ValV := fun _ _ _ _ _ _ h => h
theorem mono_field : MonoP FieldV := fun _ _ _ _ _ _ h => h
theorem mono_header : MonoP HeaderV := fun _ _ _ _ _ hb ⟨v, e, h1, h2, h3⟩ => ⟨v, e, h1, h2, h3.mono mono_int hb⟩
theorem mono_case : MonoP CaseV := fun _ _ _ _ _ _ h => h
theorem mono_state : MonoP StateV := fun _ _ _ _ _ hb ⟨v, e, h1, h2, h3, h4, h5⟩ => ⟨v, e, h1, h2, h3, h4.mono mono_case hb, h5⟩
theorem mono_param : MonoP ParamV := fun _ _ _ _ _ _ h => h
theorem mono_prim : MonoP PrimV := fun _ _ _ _ _ _ h => h
theorem mono_action : MonoP ActionV := fun _ _ _ _ _ hb ⟨v, u, e, h1, h2, h3, h4, h5⟩ => ⟨v, u, e, h1, h2, h3.mono mono_param hb, h4.mono mono_prim hb, h5⟩
theorem mono_key : MonoP KeyV := fun _ _ _ _ _ _ h => h
theorem mono_table : MonoP TableV := fun _ _ _ _ _ hb ⟨v, u, t, e, h1, h2, h3, h4, h5, h6, h7⟩ => ⟨v, u, t, e, h1, h2, h3.mono mono_key hb, h4.mono mono_int hb, h5, h6.mono mono_val hb, h7⟩
theorem mono_stage : MonoP StageV := fun _ _ _ _ _ _ h => h
theorem mono_grant : MonoP GrantV := fun _ _ _ _ _ hb ⟨v, e, h1, h2⟩ => ⟨v, e, h1, h2.mono mono_bool hb⟩
theorem mono_role : MonoP RoleV := fun _ _ _ _ _ hb ⟨v, u, e, h1, h2, h3, h4, h5⟩ => ⟨v, u, e, h1, h2, h3.mono mono_grant hb, h4.mono mono_int hb, h5⟩
theorem mono_ref : MonoP RefV := fun _ _ _ _ _ _ h => h
theorem mono_schema : MonoP SchemaV := fun _ _ _ _ _ hb ⟨v0, v1, v2, v3, v4, v5, v6, v7, e, h0, h1, h2, h3, h4, h5, h6, h7, h8⟩ =>
  ⟨v0, v1, v2, v3, v4, v5, v6, v7, e, h0.mono mono_field hb, h1.mono mono_header hb, h2.mono mono_state hb, h3.mono mono_action hb, h4.mono mono_table hb, h5.mono mono_stage hb, h6.mono mono_role hb, h7.mono mono_ref hb, h8⟩

section
variable {X B : Nat} {w : World} {s : WS} {v : Value}
theorem own_len {w : World} {B : Nat} {v : Value} {l : List Nat} (h : Own w B v l) : ∃ A n cap, v = .slice A n cap ∧ n = l.length := by
  rcases h.2 with ⟨rfl, h0⟩ | ⟨g, cap, cur, rfl, _⟩
  · exact ⟨_, _, _, rfl, h0.symm⟩
  · exact ⟨_, _, _, rfl, rfl⟩
end
/-- Encode returned the bytes l, a row of its own, and the error e. -/
def EncRet (l : List Nat) (e : Int) (w : World) (en : Ending) (w' : World) : Prop := ∃ v, en = .returned (.tuple #[v, .int .i64 e]) ∧ Own w' w.heap.size v l ∧ Below w.heap.size w w'
end Go.Proofs.Ytkennilcojbbgaa
