/- Encode of package schema: what it returns. -/
import Derived.Test.YtljmiickhkkceaaSElem4
namespace Go.Proofs.Ytljmiickhkkceaa
open Go.RowKit

def MonoP {α : Type} (P : CellP α) : Prop := ∀ B B' w cs x, B ≤ B' → P B w cs x → P B' w cs x
theorem RowV.mono {α : Type} {P : CellP α} (hP : MonoP P) {sz B B' : Nat} {w : World} {v : Value} {xs : List α} (hB : B ≤ B') (hr : RowV sz P B w v xs) : RowV sz P B' w v xs := by
  obtain ⟨A, n, cap, e1, e2, e3, e4, e5⟩ := hr
  exact ⟨A, n, cap, e1, e2, e3, e4, e5.imp id fun ⟨b, o, e6, e7⟩ => ⟨b, o, e6, fun i x hx => by
    obtain ⟨h1, cs, h2, h3⟩ := e7 i x hx
    exact ⟨by omega, cs, h2, hP _ _ _ _ _ hB h3⟩⟩⟩
theorem mono_int : MonoP IntV := fun _ _ _ _ _ _ h => h
theorem mono_bool : MonoP BoolV := fun _ _ _ _ _ _ h => h
theorem mono_val : MonoP ValV := fun _ _ _ _ _ _ h => h
theorem mono_field : MonoP FieldV := fun _ _ _ _ _ _ h => h
theorem mono_header : MonoP HeaderV := fun _ _ _ _ _ hb ⟨v, e, h1, h2, h3⟩ => ⟨v, e, h1, h2, h3.mono mono_int hb⟩
theorem mono_case : MonoP CaseV := fun _ _ _ _ _ _ h => h
theorem mono_state : MonoP StateV := fun _ _ _ _ _ hb ⟨v, e, h1, h2, h3, h4, h5⟩ => ⟨v, e, h1, h2, h3, h4.mono mono_case hb, h5⟩
theorem mono_param : MonoP ParamV := fun _ _ _ _ _ _ h => h
theorem mono_prim : MonoP PrimV := fun _ _ _ _ _ _ h => h
theorem mono_action : MonoP ActionV := fun _ _ _ _ _ hb ⟨v, u, e, h1, h2, h3, h4, h5⟩ => ⟨v, u, e, h1, h2, h3.mono mono_param hb, h4.mono mono_prim hb, h5⟩
theorem mono_key : MonoP KeyV := fun _ _ _ _ _ _ h => h
theorem mono_table : MonoP TableV := fun _ _ _ _ _ hb ⟨v, u, t, e, h1, h2, h3, h4, h5, h6, h7⟩ => ⟨v, u, t, e, h1, h2, h3.mono mono_key hb, h4.mono mono_int hb, h5, h6.mono mono_val hb, h7⟩
theorem mono_stage : MonoP StageV := fun _ _ _ _ _ _ h => h
theorem mono_grant : MonoP GrantV := fun _ _ _ _ _ hb ⟨v, e, h1, h2⟩ => ⟨v, e, h1, h2.mono mono_bool hb⟩
theorem mono_role : MonoP RoleV := fun _ _ _ _ _ hb ⟨v, u, e, h1, h2, h3, h4, h5⟩ => ⟨v, u, e, h1, h2, h3.mono mono_grant hb, h4.mono mono_int hb, h5⟩
theorem mono_ref : MonoP RefV := fun _ _ _ _ _ _ h => h
theorem mono_schema : MonoP SchemaV := fun _ _ _ _ _ hb ⟨v0, v1, v2, v3, v4, v5, v6, v7, e, h0, h1, h2, h3, h4, h5, h6, h7, h8⟩ =>
  ⟨v0, v1, v2, v3, v4, v5, v6, v7, e, h0.mono mono_field hb, h1.mono mono_header hb, h2.mono mono_state hb, h3.mono mono_action hb, h4.mono mono_table hb, h5.mono mono_stage hb, h6.mono mono_role hb, h7.mono mono_ref hb, h8⟩

set_option maxRecDepth 100000 in
theorem writing_any (X : Nat) (w : World) : Calls Try.prog 22 #[.pointer (some ⟨X, 0, none⟩)] w fun e w' => e = .returned (.pointer (some ⟨w.heap.size + 1, 0, none⟩)) ∧
    w' = (w.alloc (.cells #[.pointer (some ⟨X, 0, none⟩)] 85)).alloc (.cells #[.func (Fn.func 35) #[] #[.pointer (some ⟨w.heap.size, 0, none⟩)],
      .func (Fn.func 37) #[] #[.pointer (some ⟨w.heap.size, 0, none⟩)], .func (Fn.func 38) #[] #[.pointer (some ⟨w.heap.size, 0, none⟩)],
      .func (Fn.func 41) #[] #[.pointer (some ⟨w.heap.size, 0, none⟩)], .func (Fn.func 43) #[] #[.pointer (some ⟨w.heap.size, 0, none⟩)],
      .func (Fn.func 45) #[.pointer (some ⟨X, 0, none⟩)] #[]] 129) := by
  go_enter Try.func22, Try.ntmps22
  go_wp2
  go_ret
  exact ⟨by simp, rfl⟩
section
variable {X B : Nat} {w : World} {s : WS} {v : Value}
theorem own_len {w : World} {B : Nat} {v : Value} {l : List Nat} (h : Own w B v l) : ∃ A n cap, v = .slice A n cap ∧ n = l.length := by
  rcases h.2 with ⟨rfl, h0⟩ | ⟨g, cap, cur, rfl, _⟩
  · exact ⟨_, _, _, rfl, h0.symm⟩
  · exact ⟨_, _, _, rfl, rfl⟩
set_option maxRecDepth 100000 in
theorem serr_any (hW : WrAt X B w s v) : Calls Try.prog 24 #[.pointer (some ⟨X, 0, none⟩)] w fun e w' => e = .returned (.int .i64 (finE s)) ∧ w = w' := by
  have c0 := hW.c0
  have c1 := hW.c1
  have c2 := hW.c2
  have c3 := hW.c3
  obtain ⟨A, n, cap, rfl, hn⟩ := own_len hW.own
  clear hW
  obtain ⟨l, long, strange, outside⟩ := s
  simp only at c1 c2 c3 hn
  subst hn
  cases long
  · cases strange
    · cases outside
      · by_cases hl : 8000 < l.length
        · have e : finE ⟨l, false, false, false⟩ = 3 := by simp [finE, hl]
          rw [e]
          clear e
          go_enter Try.func24, Try.ntmps24
          go_wp2
          go_ret
          exact ⟨rfl, rfl⟩
        · have e : finE ⟨l, false, false, false⟩ = 0 := by simp [finE, hl]
          rw [e]
          clear e
          go_enter Try.func24, Try.ntmps24
          go_wp2
          go_ret
          exact ⟨rfl, rfl⟩
      · go_enter Try.func24, Try.ntmps24
        go_wp2
        go_ret
        exact ⟨rfl, rfl⟩
    · go_enter Try.func24, Try.ntmps24
      go_wp2
      go_ret
      exact ⟨rfl, rfl⟩
  · go_enter Try.func24, Try.ntmps24
    go_wp2
    go_ret
    exact ⟨rfl, rfl⟩
end
/-- Encode returned the bytes l, a row of its own, and the error e. -/
def EncRet (l : List Nat) (e : Int) (w : World) (en : Ending) (w' : World) : Prop := ∃ v, en = .returned (.tuple #[v, .int .i64 e]) ∧ Own w' w.heap.size v l ∧ Below w.heap.size w w'
set_option maxRecDepth 100000 in
set_option maxHeartbeats 1000000 in
theorem encode_any (x : SchemaD) (cs : List Value) (w : World) (hP : SchemaV w.heap.size w cs x) :
    Calls Try.prog 11 #[.agg cs.toArray] w (EncRet (finL (eSchema wayP x ws0)) (finE (eSchema wayP x ws0)) w) := by
  have hP0 := hP
  obtain ⟨v0, v1, v2, v3, v4, v5, v6, v7, rfl, _⟩ := hP
  obtain ⟨wa, ha⟩ : ∃ wa, wa = ((w.alloc (.cells #[v0, v1, v2, v3, v4, v5, v6, v7, .int .i64 x.maxBatch, .int .i64 x.budget] 31)).alloc (.cells #[.slice none 0 0, .bool false, .bool false, .bool false] 87)) := ⟨_, rfl⟩
  obtain ⟨wb, hb⟩ : ∃ wb, wb = (wa.alloc (.cells #[.pointer (some ⟨w.heap.size + 1, 0, none⟩)] 85)).alloc (.cells #[.func (Fn.func 35) #[] #[.pointer (some ⟨w.heap.size + 2, 0, none⟩)],
      .func (Fn.func 37) #[] #[.pointer (some ⟨w.heap.size + 2, 0, none⟩)], .func (Fn.func 38) #[] #[.pointer (some ⟨w.heap.size + 2, 0, none⟩)],
      .func (Fn.func 41) #[] #[.pointer (some ⟨w.heap.size + 2, 0, none⟩)], .func (Fn.func 43) #[] #[.pointer (some ⟨w.heap.size + 2, 0, none⟩)],
      .func (Fn.func 45) #[.pointer (some ⟨w.heap.size + 1, 0, none⟩)] #[]] 129) := ⟨_, rfl⟩
  have za : wa.heap.size = w.heap.size + 2 := by rw [ha]; simp
  have zb : wb.heap.size = w.heap.size + 4 := by rw [hb]; simp [za]
  have ba : Below w.heap.size w wa := by rw [ha]; exact ((Below.refl _ _).alloc (Nat.le_refl _) _).alloc (by simp) _
  have bb : Below wa.heap.size wa wb := by rw [hb]; exact ((Below.refl _ _).alloc (Nat.le_refl _) _).alloc (by simp) _
  have HB := Lib.hid (ba.trans (bb.mono ba.size))
  have ca : ∀ i, wb.cell? ⟨w.heap.size, i, none⟩ = #[v0, v1, v2, v3, v4, v5, v6, v7, .int .i64 x.maxBatch, .int .i64 x.budget][i]? := fun i => by
    rw [bb.cell (p := ⟨w.heap.size, i, none⟩) (by show w.heap.size < _; omega), ha, World.cell?_alloc_past _ _ _ (by simp), World.cell?_alloc_new]
  have cx : ∀ i, wb.cell? ⟨w.heap.size + 1, i, none⟩ = #[Value.slice none 0 0, .bool false, .bool false, .bool false][i]? := fun i => by
    rw [bb.cell (p := ⟨w.heap.size + 1, i, none⟩) (by show w.heap.size + 1 < _; omega), ha]
    exact World.cell?_alloc_at _ _ _ _ (by simp)
  have fx : ∀ i, wb.frozen? ⟨w.heap.size + 1, i, none⟩ = false := fun i => by
    rw [bb.frozen (p := ⟨w.heap.size + 1, i, none⟩) (by show w.heap.size + 1 < _; omega), ha]
    have := World.frozen?_alloc_new (w.alloc (.cells #[v0, v1, v2, v3, v4, v5, v6, v7, .int .i64 x.maxBatch, .int .i64 x.budget] 31)) #[.slice none 0 0, .bool false, .bool false, .bool false] 87 i
    rwa [World.size_alloc] at this
  have cy : wb.cell? ⟨w.heap.size + 2, 0, none⟩ = some (.pointer (some ⟨w.heap.size + 1, 0, none⟩)) := by
    rw [hb, World.cell?_alloc_past _ _ _ (by simp [za]), World.cell?_alloc_at _ _ _ _ (by rw [za])]; rfl
  have ck : ∀ i, wb.cell? ⟨w.heap.size + 3, i, none⟩ = #[Value.func (Fn.func 35) #[] #[.pointer (some ⟨w.heap.size + 2, 0, none⟩)],
      .func (Fn.func 37) #[] #[.pointer (some ⟨w.heap.size + 2, 0, none⟩)], .func (Fn.func 38) #[] #[.pointer (some ⟨w.heap.size + 2, 0, none⟩)],
      .func (Fn.func 41) #[] #[.pointer (some ⟨w.heap.size + 2, 0, none⟩)], .func (Fn.func 43) #[] #[.pointer (some ⟨w.heap.size + 2, 0, none⟩)],
      .func (Fn.func 45) #[.pointer (some ⟨w.heap.size + 1, 0, none⟩)] #[]][i]? := fun i => by
    rw [hb]; exact World.cell?_alloc_at _ _ _ _ (by simp [za])
  have HS : Hid (Set3 SchemaV (w.heap.size + 1) (w.heap.size + 3) (w.heap.size + 2) (w.heap.size + 1) (w.heap.size + 4) wb ws0 w.heap.size 0 x) := Lib.hid
    ⟨⟨ck 0, ck 1, ck 2, ck 3, ck 4, ck 5, cy, by omega, by omega, by omega, by omega, by omega⟩,
      ⟨_, cx 0, cx 1, cx 2, cx 3, fx 0, fx 1, fx 2, fx 3, World.ownsRow_nil _ _ _ _, by omega, by omega⟩,
      ⟨by omega, _, fun j hj => by rw [Nat.zero_add, ca, List.getElem?_toArray, List.getElem?_eq_getElem hj], mono_schema _ _ _ _ _ (Nat.le_succ _) (kept_schema _ _ _ _ _ HB.out hP0)⟩, by decide⟩
  have HA := Lib.hid ha
  have HBE := Lib.hid hb
  have HZ := Lib.hid za
  clear ca cx fx cy ck ba bb hP0 ha hb za zb
  obtain ⟨E, hE⟩ : ∃ E, E = finE (eSchema wayP x ws0) := ⟨_, rfl⟩
  have HE := Lib.hid hE
  rw [finL, ← hE]
  clear hE
  have hout : ∀ w2 v, WrAt (w.heap.size + 1) (w.heap.size + 4) w2 (eSchema wayP x ws0) v → Fr (w.heap.size + 1) (w.heap.size + 4) wb w2 → Own w2 w.heap.size v (eSchema wayP x ws0).l ∧ Below w.heap.size w w2 :=
    fun w2 v hv hf => ⟨hv.own.base (by omega), HB.out.trans (hf.below (Nat.le_succ _) (by omega))⟩
  have HO := Lib.hid hout
  clear hout
  by_cases h0 : E = 0
  · subst h0
    go_enter Try.func11, Try.ntmps11
    go_wp2_with (first
      | (go_at_call 22; rw [← HA.out]; refine (writing_any (w.heap.size + 1) wa).mono ?_; rw [HZ.out, ← HBE.out]; rintro e w1 ⟨rfl, rfl⟩)
      | (go_at_call 23; refine (eschema_any x HS.out (by decide)).mono ?_; rintro e w2 ⟨rfl, ⟨v, hv⟩, hf⟩; have HV := Lib.hid hv; have HF := Lib.hid hf; clear hv hf)
      | (go_at_call 24; refine (serr_any HV.out).mono ?_; rw [← HE.out]; rintro e w3 ⟨rfl, rfl⟩; have x0 := HV.out.c0; obtain ⟨A, n, cap, rfl, hn⟩ := own_len HV.out.own; have HN := Lib.hid hn; clear hn))
    go_ret2
    obtain ⟨o1, o2⟩ := HO.out _ _ HV.out HF.out
    exact ⟨_, rfl, o1, o2⟩
  · have h1 : (E == 0) = false := by simpa using h0
    have h2 : (E != 0) = true := by simp [h0]
    rw [if_neg h0]
    go_enter Try.func11, Try.ntmps11
    go_wp2_with (first
      | (go_at_call 22; rw [← HA.out]; refine (writing_any (w.heap.size + 1) wa).mono ?_; rw [HZ.out, ← HBE.out]; rintro e w1 ⟨rfl, rfl⟩)
      | (go_at_call 23; refine (eschema_any x HS.out (by decide)).mono ?_; rintro e w2 ⟨rfl, ⟨v, hv⟩, hf⟩; have HV := Lib.hid hv; have HF := Lib.hid hf; clear hv hf)
      | (go_at_call 24; refine (serr_any HV.out).mono ?_; rw [← HE.out]; rintro e w3 ⟨rfl, rfl⟩))
    go_ret2
    obtain ⟨o1, o2⟩ := HO.out _ _ HV.out HF.out
    exact ⟨_, rfl, World.ownsRow_nil _ _ _ _, o2⟩
end Go.Proofs.Ytljmiickhkkceaa
