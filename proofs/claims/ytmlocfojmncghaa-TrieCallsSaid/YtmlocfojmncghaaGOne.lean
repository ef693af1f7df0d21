/- A region that draws its order, makes one box and fills it: by an invariant. -/
import Derived.Test.YtmlocfojmncghaaNLast
import Derived.Test.YtmlocfojmncghaaGPre
namespace Go.Proofs.Ytmlocfojmncghaa
open Go.RowKit

structure OneJ (N : Nat) (slot : Nat → Nat) (c : Nat → Value) (bs : Nat) (W0 : World) (Z F : Array Value) (T : TypeId) (listed : Array Bool) (w : World) (v : Nat → Value) : Prop where
  size : listed.size = N + 2
  below : Below W0.heap.size W0 w
  f : ∀ i, i < N → listed.getD i false = true → v (slot i) = c i
  p0 : listed.getD N false = false → listed.getD (N + 1) false = false
  p : listed.getD N false = true → ∃ X, v bs = .pointer (some ⟨X, 0, none⟩) ∧ W0.heap.size ≤ X ∧ X < w.heap.size ∧ (listed.getD (N + 1) false = false → w.heap[X]? = some (.cells Z T (0, 0))) ∧ (listed.getD (N + 1) false = true → w.heap[X]? = some (.cells F T (0, 0)))
theorem getD_replO (k i : Nat) : (Array.replicate k false).getD i false = false := by
  rw [Array.getD_eq_getD_getElem?, Array.getElem?_replicate]
  split <;> rfl
theorem ready_allO {md : Region.Mode} {ops : Array Oper} {listed : Array Bool} (hchk : (List.range ops.size).all (fun i => ((ops[i]?).map fun o => o.after.all fun e => !Region.binds md e || decide (e.on < i)).getD true) = true)
    (hls : listed.size = ops.size) (hr : Region.ready md ops listed = []) : ∀ i, i < ops.size → listed.getD i false = true := by
  intro i
  induction i using Nat.strongRecOn with
  | ind i ih =>
    intro hi
    cases hl : listed.getD i true with
    | true =>
      rw [Array.getD_eq_getD_getElem?] at hl ⊢
      rw [Array.getElem?_eq_getElem (by omega)] at hl ⊢
      exact hl
    | false =>
      exfalso
      have hmem : i ∈ Region.ready md ops listed := by
        unfold Region.ready
        refine List.mem_filter.2 ⟨List.mem_range.2 hi, ?_⟩
        rw [Bool.and_eq_true]
        refine ⟨by rw [hl]; rfl, ?_⟩
        rw [Array.getElem?_eq_getElem hi]
        simp only [Option.map_some, Option.getD_some, Array.all_eq_true']
        intro e he
        have h1 := List.all_eq_true.1 hchk i (List.mem_range.2 hi)
        rw [Array.getElem?_eq_getElem hi] at h1
        simp only [Option.map_some, Option.getD_some, Array.all_eq_true'] at h1
        have h2 := h1 e he
        cases hb : Region.binds md e
        · simp
        · rw [hb] at h2
          have h3 : e.on < i := by simpa using h2
          rw [ih e.on h3 (by omega)]
          simp
      rw [hr] at hmem
      cases hmem
theorem OneJ.begun {N : Nat} {slot : Nat → Nat} {c : Nat → Value} {bs : Nat} {W0 : World} {Z F : Array Value} {T : TypeId} {v : Nat → Value} {k : Nat} (hk : k = N + 2) : OneJ N slot c bs W0 Z F T (Array.replicate k false) W0.drew v :=
  ⟨by simp [hk], Below.drew (Below.refl _ _), fun i _ h => (by rw [getD_replO] at h; cases h), fun _ => getD_replO _ _, fun h => (by rw [getD_replO] at h; cases h)⟩
theorem OneJ.val {N : Nat} {slot : Nat → Nat} {c : Nat → Value} {bs : Nat} {W0 : World} {Z F : Array Value} {T : TypeId} {listed : Array Bool} {w w' : World} {v : Nat → Value} (h : OneJ N slot c bs W0 Z F T listed w v) {i : Nat} (hi : i < N) (hs : ∀ j, j < N → j ≠ i → slot j ≠ slot i) (hb : slot i ≠ bs) (hw : Below w.heap.size w w') {u : Value} (hu : u = c i) : OneJ N slot c bs W0 Z F T (listed.setIfInBounds i true) w' (updv v (slot i) u) := by
  have g : ∀ j, j ≠ i → (listed.setIfInBounds i true).getD j false = listed.getD j false := fun j hj => by rw [getD_setN (by rw [h.size]; omega), if_neg (Ne.symm hj)]
  have hv : updv v (slot i) u bs = v bs := by rw [updv, if_neg (Ne.symm hb)]
  refine ⟨by rw [Array.size_setIfInBounds]; exact h.size, h.below.trans (hw.mono h.below.size), fun j hj hl => ?_, fun hl => ?_, fun hl => ?_⟩
  · by_cases e : j = i
    · subst e
      rw [updv, if_pos rfl]; exact hu
    · rw [g j e] at hl
      rw [updv, if_neg (hs j hj e)]
      exact h.f j hj hl
  · rw [g N (by omega)] at hl
    rw [g (N + 1) (by omega)]
    exact h.p0 hl
  · rw [g N (by omega)] at hl
    rw [hv, g (N + 1) (by omega)]
    obtain ⟨X, e, h1, h2, h3, h4⟩ := h.p hl
    exact ⟨X, e, h1, Nat.lt_of_lt_of_le h2 hw.size, fun hf => (hw.block X h2).trans (h3 hf), fun hf => (hw.block X h2).trans (h4 hf)⟩
theorem OneJ.alloc {N : Nat} {slot : Nat → Nat} {c : Nat → Value} {bs : Nat} {W0 : World} {Z F : Array Value} {T : TypeId} {listed : Array Bool} {w : World} {v : Nat → Value} (h : OneJ N slot c bs W0 Z F T listed w v) (hs : ∀ j, j < N → slot j ≠ bs) (hl0 : listed.getD N false = false) : OneJ N slot c bs W0 Z F T (listed.setIfInBounds N true) (w.alloc (.cells Z T)) (updv v bs (.pointer (some ⟨w.heap.size, 0, none⟩))) := by
  have g : ∀ j, j ≠ N → (listed.setIfInBounds N true).getD j false = listed.getD j false := fun j hj => by rw [getD_setN (by rw [h.size]; omega), if_neg (Ne.symm hj)]
  have gt : (listed.setIfInBounds N true).getD N false = true := by rw [getD_setN (by rw [h.size]; omega), if_pos rfl]
  refine ⟨by rw [Array.size_setIfInBounds]; exact h.size, h.below.alloc h.below.size _, fun j hj hl => ?_, fun hl => ?_, fun hl => ?_⟩
  · rw [g j (by omega)] at hl
    rw [updv, if_neg (hs j hj)]
    exact h.f j hj hl
  · rw [gt] at hl; cases hl
  · rw [updv, if_pos rfl, g (N + 1) (by omega)]
    exact ⟨w.heap.size, rfl, h.below.size, by simp, fun _ => heap_alloc_new w _, fun hf => by rw [h.p0 hl0] at hf; cases hf⟩
theorem OneJ.store {N : Nat} {slot : Nat → Nat} {c : Nat → Value} {bs : Nat} {W0 : World} {Z F : Array Value} {T : TypeId} {listed : Array Bool} {w w' : World} {v : Nat → Value} (h : OneJ N slot c bs W0 Z F T listed w v) {X : Nat} (hlN : listed.getD N false = true) (hX : v bs = .pointer (some ⟨X, 0, none⟩)) (hX0 : W0.heap.size ≤ X) (hXl : X < w.heap.size) (hz : w.heap.size ≤ w'.heap.size) (hb : w'.heap[X]? = some (.cells F T (0, 0))) (hw : Below W0.heap.size W0 w') : OneJ N slot c bs W0 Z F T (listed.setIfInBounds (N + 1) true) w' v := by
  have g : ∀ j, j ≠ N + 1 → (listed.setIfInBounds (N + 1) true).getD j false = listed.getD j false := fun j hj => by rw [getD_setN (by rw [h.size]; omega), if_neg (Ne.symm hj)]
  have gt : (listed.setIfInBounds (N + 1) true).getD (N + 1) false = true := by rw [getD_setN (by rw [h.size]; omega), if_pos rfl]
  refine ⟨by rw [Array.size_setIfInBounds]; exact h.size, hw, fun j hj hl => ?_, fun hl => ?_, fun hl => ?_⟩
  · rw [g j (by omega)] at hl
    exact h.f j hj hl
  · rw [g N (by omega), hlN] at hl
    cases hl
  · rw [gt]
    exact ⟨X, hX, hX0, Nat.lt_of_lt_of_le hXl hz, fun hf => (by cases hf), fun _ => hb⟩
end Go.Proofs.Ytmlocfojmncghaa
