/- Regions that draw their order, by an invariant over their slots. -/
import Derived.Test.YtkennilcojbbgaaPure
namespace Go.Proofs.Ytkennilcojbbgaa
/- A region of ten operations that draws its order, eight slots: two loads, a call and a call, twice; two stores. By an invariant. -/
section
open Go.RowKit

/-- How many operations have not yet come up. -/
def leftN (ops : Array Oper) (listed : Array Bool) : Nat := ((List.range ops.size).filter fun i => !listed.getD i true).length
theorem ready_subN {md : Region.Mode} {ops : Array Oper} {listed : Array Bool} {i : Nat} (h : i ∈ Region.ready md ops listed) : i < ops.size ∧ listed.getD i true = false := by
  unfold Region.ready at h
  obtain ⟨h1, h2⟩ := List.mem_filter.1 h
  rw [Bool.and_eq_true] at h2
  exact ⟨List.mem_range.1 h1, by simpa using h2.1⟩
theorem getD_setN {listed : Array Bool} {i j : Nat} {d : Bool} (hl : i < listed.size) : (listed.setIfInBounds i true).getD j d = if i = j then true else listed.getD j d := by
  rw [Array.getD_eq_getD_getElem?, Array.getD_eq_getD_getElem?, Array.getElem?_setIfInBounds]
  by_cases h : i = j
  · subst h; simp [hl]
  · simp [h]
theorem leftN_set {ops : Array Oper} {listed : Array Bool} {i : Nat} (hi : i < ops.size) (hl : listed.getD i true = false) : leftN ops (listed.setIfInBounds i true) < leftN ops listed := by
  unfold leftN
  have hlt : i < listed.size := by
    rcases Nat.lt_or_ge i listed.size with h | h
    · exact h
    · rw [Array.getD_eq_getD_getElem?, Array.getElem?_eq_none h] at hl; cases hl
  have key : ∀ (L : List Nat), (L.filter fun j => !(listed.setIfInBounds i true).getD j true).length ≤ (L.filter fun j => !listed.getD j true).length ∧ (i ∈ L → (L.filter fun j => !(listed.setIfInBounds i true).getD j true).length < (L.filter fun j => !listed.getD j true).length) := by
    intro L
    induction L with
    | nil => simp
    | cons x M ih =>
      rw [List.filter_cons, List.filter_cons, getD_setN hlt]
      by_cases hxi : i = x
      · subst hxi
        rw [if_pos rfl, hl]
        simp only [Bool.not_true, Bool.false_eq_true, if_false, Bool.not_false, if_true, List.length_cons]
        exact ⟨by omega, fun _ => by omega⟩
      · rw [if_neg hxi]
        cases hx : listed.getD x true with
        | true =>
          simp only [Bool.not_true, Bool.false_eq_true, if_false]
          exact ⟨ih.1, fun h => ih.2 (by rcases List.mem_cons.1 h with e | e; exact absurd e hxi; exact e)⟩
        | false =>
          simp only [Bool.not_false, if_true, List.length_cons]
          exact ⟨by omega, fun h => by have := ih.2 (by rcases List.mem_cons.1 h with e | e; exact absurd e hxi; exact e); omega⟩
  exact (key _).2 (List.mem_range.2 hi)
/-- the act with eight slots from base on -/
def setv (a : Act) (base : Nat) (v : Nat → Value) : Act :=
  { a with tmps := (((((((a.tmps.setIfInBounds base (v 0)).setIfInBounds (base + 1) (v 1)).setIfInBounds (base + 2) (v 2)).setIfInBounds (base + 3) (v 3)).setIfInBounds (base + 4) (v 4)).setIfInBounds (base + 5) (v 5)).setIfInBounds (base + 6) (v 6)).setIfInBounds (base + 7) (v 7) }
def updv (v : Nat → Value) (i : Nat) (x : Value) : Nat → Value := fun j => if j = i then x else v j
section
variable {P : Program} {ops : Array Oper} {Q : Exit → Act → World → Prop} {md : Region.Mode} {a0 : Act} {base : Nat}
theorem wpAny_slots (J : Array Bool → World → (Nat → Value) → Prop)
    (hstep : ∀ listed w v i, J listed w v → i ∈ Region.ready md ops listed → wpOp P ops Q i (fun a' w' => ∃ v', a' = setv a0 base v' ∧ J (listed.setIfInBounds i true) w' v') (setv a0 base v) w)
    (hend : ∀ listed w v, J listed w v → Region.ready md ops listed = [] → Q .normal (setv a0 base v) w) :
    ∀ (fuel : Nat) (listed : Array Bool) (v : Nat → Value) (w : World), leftN ops listed ≤ fuel → J listed w v → wpAny P md ops Q fuel listed (setv a0 base v) w
  | 0, listed, v, w, hf, hI => by
    have hr : Region.ready md ops listed = [] := by
      cases e : Region.ready md ops listed with
      | nil => rfl
      | cons i rs =>
        obtain ⟨h1, h2⟩ := ready_subN (md := md) (ops := ops) (listed := listed) (i := i) (by rw [e]; exact List.mem_cons_self ..)
        have := leftN_set h1 h2
        omega
    exact ⟨hr, hend listed w v hI hr⟩
  | fuel + 1, listed, v, w, hf, hI => by
    refine ⟨fun hr => hend listed w v hI hr, fun i hi => ?_⟩
    obtain ⟨h1, h2⟩ := ready_subN hi
    have hlt := leftN_set h1 h2
    refine wpOp_mono (fun a' w' h' => ?_) (hstep listed w v i hI hi)
    obtain ⟨v', rfl, hJ⟩ := h'
    exact wpAny_slots J hstep hend fuel _ v' w' (by omega) hJ
theorem wp_region_slots {id : Nat} {W : World} (J : Array Bool → World → (Nat → Value) → Prop) (hm : P.follows .mixedOrders = true)
    (ha : a0 = setv a0 base (fun i => a0.tmps[base + i]?.getD undef))
    (h0 : J (Array.replicate ops.size false) W.drew (fun i => a0.tmps[base + i]?.getD undef))
    (hstep : ∀ listed w v i, J listed w v → i ∈ Region.ready .any ops listed → wpOp P ops Q i (fun a' w' => ∃ v', a' = setv a0 base v' ∧ J (listed.setIfInBounds i true) w' v') (setv a0 base v) w)
    (hend : ∀ listed w v, J listed w v → Region.ready .any ops listed = [] → Q .normal (setv a0 base v) w) : (Code.region id ops true).wp P Q a0 W := by
  refine wp_region_any hm ?_
  have h := wpAny_slots (a0 := a0) (base := base) J hstep hend ops.size (Array.replicate ops.size false) _ W.drew (Nat.le_trans (List.length_filter_le _ _) (by simp)) h0
  rw [← ha] at h
  exact h
end
theorem ready_depN {md : Region.Mode} {ops : Array Oper} {listed : Array Bool} {i : Nat} {o : Oper} (h : i ∈ Region.ready md ops listed) (ho : ops[i]? = some o) {e : Edge} (he : e ∈ o.after) (hb : Region.binds md e = true) : listed.getD e.on false = true := by
  unfold Region.ready at h
  have h2 := (List.mem_filter.1 h).2
  rw [Bool.and_eq_true, ho] at h2
  have h3 := h2.2
  simp only [Option.map_some, Option.getD_some, Array.all_eq_true'] at h3
  have := h3 e he
  simpa [hb] using this
theorem ready_allN {md : Region.Mode} {ops : Array Oper} {listed : Array Bool} (hchk : (List.range ops.size).all (fun i => ((ops[i]?).map fun o => o.after.all fun e => decide (e.on < i)).getD true) = true)
    (hls : listed.size = ops.size) (hr : Region.ready md ops listed = []) : ∀ i, i < ops.size → listed.getD i false = true := by
  intro i
  induction i using Nat.strongRecOn with
  | ind i ih =>
    intro hi
    cases hl : listed.getD i true with
    | true =>
      rw [Array.getD_eq_getD_getElem?] at hl ⊢
      rw [Array.getElem?_eq_getElem (by omega)] at hl ⊢
      exact hl
    | false =>
      exfalso
      have hmem : i ∈ Region.ready md ops listed := by
        unfold Region.ready
        refine List.mem_filter.2 ⟨List.mem_range.2 hi, ?_⟩
        rw [Bool.and_eq_true]
        refine ⟨by rw [hl]; rfl, ?_⟩
        rw [Array.getElem?_eq_getElem hi]
        simp only [Option.map_some, Option.getD_some, Array.all_eq_true']
        intro e he
        have h1 := List.all_eq_true.1 hchk i (List.mem_range.2 hi)
        rw [Array.getElem?_eq_getElem hi] at h1
        simp only [Option.map_some, Option.getD_some, Array.all_eq_true', decide_eq_true_eq] at h1
        have h2 := h1 e he
        rw [ih e.on h2 (by omega)]
        simp
      rw [hr] at hmem
      cases hmem
end
section
open Go.RowKit
def setS (a : Act) : List Nat → (Nat → Value) → Act
  | [], _ => a
  | s :: r, v => setS { a with tmps := a.tmps.setIfInBounds s (v s) } r v
section
variable {P : Program} {ops : Array Oper} {Q : Exit → Act → World → Prop} {md : Region.Mode} {a0 : Act} {slots : List Nat}
theorem wpAny_S (J : Array Bool → World → (Nat → Value) → Prop)
    (hstep : ∀ listed w v i, J listed w v → i ∈ Region.ready md ops listed → wpOp P ops Q i (fun a' w' => ∃ v', a' = setS a0 slots v' ∧ J (listed.setIfInBounds i true) w' v') (setS a0 slots v) w)
    (hend : ∀ listed w v, J listed w v → Region.ready md ops listed = [] → Q .normal (setS a0 slots v) w) :
    ∀ (fuel : Nat) (listed : Array Bool) (v : Nat → Value) (w : World), leftN ops listed ≤ fuel → J listed w v → wpAny P md ops Q fuel listed (setS a0 slots v) w
  | 0, listed, v, w, hf, hI => by
    have hr : Region.ready md ops listed = [] := by
      cases e : Region.ready md ops listed with
      | nil => rfl
      | cons i rs =>
        obtain ⟨h1, h2⟩ := ready_subN (md := md) (ops := ops) (listed := listed) (i := i) (by rw [e]; exact List.mem_cons_self ..)
        have := leftN_set h1 h2
        omega
    exact ⟨hr, hend listed w v hI hr⟩
  | fuel + 1, listed, v, w, hf, hI => by
    refine ⟨fun hr => hend listed w v hI hr, fun i hi => ?_⟩
    obtain ⟨h1, h2⟩ := ready_subN hi
    have hlt := leftN_set h1 h2
    refine wpOp_mono (fun a' w' h' => ?_) (hstep listed w v i hI hi)
    obtain ⟨v', rfl, hJ⟩ := h'
    exact wpAny_S J hstep hend fuel _ v' w' (by omega) hJ
theorem wp_region_S {id : Nat} {W : World} (slots : List Nat) (J : Array Bool → World → (Nat → Value) → Prop) (hm : P.follows .mixedOrders = true)
    (ha : a0 = setS a0 slots (fun i => a0.tmps[i]?.getD undef))
    (h0 : J (Array.replicate ops.size false) W.drew (fun i => a0.tmps[i]?.getD undef))
    (hstep : ∀ listed w v i, J listed w v → i ∈ Region.ready .any ops listed → wpOp P ops Q i (fun a' w' => ∃ v', a' = setS a0 slots v' ∧ J (listed.setIfInBounds i true) w' v') (setS a0 slots v) w)
    (hend : ∀ listed w v, J listed w v → Region.ready .any ops listed = [] → Q .normal (setS a0 slots v) w) : (Code.region id ops true).wp P Q a0 W := by
  refine wp_region_any hm ?_
  have h := wpAny_S (a0 := a0) (slots := slots) J hstep hend ops.size (Array.replicate ops.size false) _ W.drew (Nat.le_trans (List.length_filter_le _ _) (by simp)) h0
  rw [← ha] at h
  exact h
end
theorem unl {listed : Array Bool} {N i : Nat} (hs : listed.size = N) (hi : i < N) (h : listed.getD i true = false) : listed.getD i false = false := by
  rw [Array.getD_eq_getD_getElem?, Array.getElem?_eq_getElem (by omega)] at h ⊢
  exact h
end
end Go.Proofs.Ytkennilcojbbgaa
