/- Layer 8: variables in memory; the set of them as a map. -/
import Derived.Test.YtmdifoclojogpaaGreatDoorTPure
import Derived.Maps.OwnSet
import Derived.DeepKeys4
namespace Go.Proofs.YtmdifoclojogpaaGreatDoor
open Go.RowKit Go.Maps

/-- a row of variables -/
structure VarR (w : World) (A : Option Addr) (vs : List (ByteArray × ByteArray)) : Prop where
  r : vs = [] ∨ ∃ g, A = some ⟨g, 0, none⟩ ∧ g < w.heap.size ∧ ∀ k v, vs[k]? = some v → w.cell? ⟨g, k * 2, none⟩ = some (.string v.1) ∧ w.cell? ⟨g, k * 2 + 1, none⟩ = some (.string v.2)
theorem VarR.below {w w' : World} {A : Option Addr} {vs : List (ByteArray × ByteArray)} (h : VarR w A vs) (hb : Below w.heap.size w w') : VarR w' A vs := by
  rcases h.r with h | ⟨g, h1, h2, h3⟩
  · exact ⟨.inl h⟩
  · exact ⟨.inr ⟨g, h1, Nat.lt_of_lt_of_le h2 hb.size, fun k v hv => by rw [hb.cell (p := ⟨g, _, none⟩) h2, hb.cell (p := ⟨g, _, none⟩) h2]; exact h3 k v hv⟩⟩
/-- texts that a map may have in its keys -/
def VarS (vs : List (ByteArray × ByteArray)) : Prop := ∀ v ∈ vs, v.1.size ≤ 100000 ∧ v.2.size ≤ 100000
set_option maxRecDepth 100000 in
theorem laidOutT : laidOutB Tryz.prog = true := by kernel_rfl
set_option maxRecDepth 100000 in
theorem lawVar : Keyed Tryz.prog 130 := Keyed.of_law (deep_law_laid laidOutT (m := 2) (by omega) (of_decide_eq_true (by kernel_rfl)) (by kernel_rfl) (by kernel_rfl))
set_option maxRecDepth 100000 in
theorem keyVar (a c : ByteArray) (ha : a.size ≤ maxLen) (hc : c.size ≤ maxLen) : ∃ l, keyOf Tryz.prog 130 (.agg #[.string a, .string c]) = some l := by
  have hk : Tryz.prog.keyType 130 = true := by kernel_rfl
  have h2 : Tryz.prog.cellsOf 130 = 2 := by kernel_rfl
  have h1 : Tryz.prog.cellsOf 9 = 1 := by kernel_rfl
  obtain ⟨m, hm⟩ : ∃ m, Tryz.prog.types.size = m + 1 := ⟨Tryz.prog.types.size - 1, by have : 0 < Tryz.prog.types.size := of_decide_eq_true (by kernel_rfl); omega⟩
  unfold keyOf
  rw [Tryz.underlying130]
  simp only [hk, hm, Bool.true_and]
  simp [Value.formed, Value.cells, Tryz.underlying130, h2, Program.keyLits, h1, Tryz.underlying9, ha, hc, List.mapM_cons]
set_option maxRecDepth 100000 in
theorem zeroBool (w : World) : (zeroValue 4).run Tryz.prog w = .ok (.bool false) w := by kernel_rfl
theorem plainBool_inv {v : Value} {z : DataW Unit × List MemPlace} (h : plainElem Tryz.prog 4 v = some z) : ∃ b, v = .bool b ∧ z = (.lit (.bool b), []) := by
  unfold plainElem at h
  cases v <;> simp [Tryz.underlying4] at h
  exact ⟨_, rfl, h.symm⟩
/-- a map that holds true at just these variables -/
def SetAt (w : World) (b n : Nat) (vs : List (ByteArray × ByteArray)) : Prop := ∃ D : DataW Unit, w.ownsMap Tryz.prog 130 (plainElem Tryz.prog 4) b n D ∧ IsMap D ∧ ∀ a c l, keyOf Tryz.prog 130 (.agg #[.string a, .string c]) = some l → D.atKey l (.lit (.bool false)) = .lit (.bool (vin vs a c))
theorem SetAt.below {w w' : World} {b n : Nat} {vs : List (ByteArray × ByteArray)} (h : SetAt w b n vs) (hb : Below w.heap.size w w') : SetAt w' b n vs := by
  obtain ⟨D, h1, h2⟩ := h
  exact ⟨D, h1.kept (grown_of_below2 hb none) (by simp), h2⟩
set_option maxRecDepth 100000 in
theorem SetAt.lookup {w : World} {b n : Nat} {vs : List (ByteArray × ByteArray)} (h : SetAt w b n vs) (a c : ByteArray) (ha : a.size ≤ maxLen) (hc : c.size ≤ maxLen) : (Instr.lookup 132 (.map (some b)) (.agg #[.string a, .string c]) false).run Tryz.prog w = .ok (.bool (vin vs a c)) w := by
  obtain ⟨D, h1, _, h3⟩ := h
  obtain ⟨l, hl⟩ := keyVar a c ha hc
  obtain ⟨v, ps, hrun, hv⟩ := h1.lookup lawVar Tryz.underlying132 (zeroBool w) (plainElem_bool Tryz.underlying4 false) hl
  obtain ⟨x, rfl, hx⟩ := plainBool_inv hv
  rw [h3 a c l hl] at hx
  simp only [Prod.mk.injEq, DataW.lit.injEq, Lit.bool.injEq] at hx
  rw [hx.1, hrun]
theorem SetAt.made (w : World) : SetAt (w.alloc (.map #[] 0)) w.heap.size 0 [] :=
  ⟨.map [], World.ownsMap_made _ _ _ _, isMap_empty, fun a c l _ => by simp [DataW.atKey, vin]⟩
set_option maxRecDepth 100000 in
theorem SetAt.put {w : World} {b n : Nat} {vs : List (ByteArray × ByteArray)} (h : SetAt w b n vs) (a c : ByteArray) (ha : a.size ≤ maxLen) (hc : c.size ≤ maxLen) (hn : n < maxLen) : ∃ w', (Instr.mapUpdate 132 (.map (some b)) (.agg #[.string a, .string c]) (.bool true)).run Tryz.prog w = .ok () w' ∧ SetAt w' b (n + 1) (vs ++ [(a, c)]) ∧ w.grownBy w' (some b) := by
  obtain ⟨D, h1, h2, h3⟩ := h
  obtain ⟨l, hl⟩ := keyVar a c ha hc
  obtain ⟨w', hrun, h4, h5⟩ := h1.update lawVar Tryz.underlying132 hn hl (plainElem_bool Tryz.underlying4 true)
  refine ⟨w', hrun, ⟨_, h4, h2.put _ _, fun a' c' l' hl' => ?_⟩, h5⟩
  by_cases e : l' = l
  · subst e
    have e2 := lawVar.inj hl hl'
    injection e2 with e2
    have e3 : a = a' ∧ c = c' := by simpa using e2
    obtain ⟨rfl, rfl⟩ := e3
    rw [atKey_put_same h2 (lawVar.key hl)]
    simp [vin]
  · rw [atKey_put_other e, h3 a' c' l' hl']
    have : ¬ (a = a' ∧ c = c') := fun e2 => e (by
      obtain ⟨rfl, rfl⟩ := e2
      rw [hl] at hl'
      exact (Option.some.inj hl').symm)
    have h6 : (decide (a = a') && decide (c = c')) = false := by
      cases hh : (decide (a = a') && decide (c = c'))
      · rfl
      · rw [Bool.and_eq_true, decide_eq_true_iff, decide_eq_true_iff] at hh; exact absurd hh this
    unfold vin
    rw [List.any_append]
    simp [h6]
end Go.Proofs.YtmdifoclojogpaaGreatDoor
