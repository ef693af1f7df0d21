/- Contracts, joined: NInv, NLast. -/
import Derived.Test.YtldgjahpmlafgaaGreatPure
import Derived.Deep.RegionHeld3
namespace Go.Proofs.YtldgjahpmlafgaaGreat
section
/- A region of ten operations that draws its order, eight slots: two loads, a call and a call, twice; two stores. By an invariant. -/
section
open Go.RowKit

/-- How many operations have not yet come up. -/
def leftN (ops : Array Oper) (listed : Array Bool) : Nat := ((List.range ops.size).filter fun i => !listed.getD i true).length
theorem ready_subN {md : Region.Mode} {ops : Array Oper} {listed : Array Bool} {i : Nat} (h : i ∈ Region.ready md ops listed) : i < ops.size ∧ listed.getD i true = false := by
  unfold Region.ready at h
  obtain ⟨h1, h2⟩ := List.mem_filter.1 h
  rw [Bool.and_eq_true] at h2
  exact ⟨List.mem_range.1 h1, by simpa using h2.1⟩
theorem getD_setN {listed : Array Bool} {i j : Nat} {d : Bool} (hl : i < listed.size) : (listed.setIfInBounds i true).getD j d = if i = j then true else listed.getD j d := by
  rw [Array.getD_eq_getD_getElem?, Array.getD_eq_getD_getElem?, Array.getElem?_setIfInBounds]
  by_cases h : i = j
  · subst h; simp [hl]
  · simp [h]
theorem leftN_set {ops : Array Oper} {listed : Array Bool} {i : Nat} (hi : i < ops.size) (hl : listed.getD i true = false) : leftN ops (listed.setIfInBounds i true) < leftN ops listed := by
  unfold leftN
  have hlt : i < listed.size := by
    rcases Nat.lt_or_ge i listed.size with h | h
    · exact h
    · rw [Array.getD_eq_getD_getElem?, Array.getElem?_eq_none h] at hl; cases hl
  have key : ∀ (L : List Nat), (L.filter fun j => !(listed.setIfInBounds i true).getD j true).length ≤ (L.filter fun j => !listed.getD j true).length ∧ (i ∈ L → (L.filter fun j => !(listed.setIfInBounds i true).getD j true).length < (L.filter fun j => !listed.getD j true).length) := by
    intro L
    induction L with
    | nil => simp
    | cons x M ih =>
      rw [List.filter_cons, List.filter_cons, getD_setN hlt]
      by_cases hxi : i = x
      · subst hxi
        rw [if_pos rfl, hl]
        simp only [Bool.not_true, Bool.false_eq_true, if_false, Bool.not_false, if_true, List.length_cons]
        exact ⟨by omega, fun _ => by omega⟩
      · rw [if_neg hxi]
        cases hx : listed.getD x true with
        | true =>
          simp only [Bool.not_true, Bool.false_eq_true, if_false]
          exact ⟨ih.1, fun h => ih.2 (by rcases List.mem_cons.1 h with e | e; exact absurd e hxi; exact e)⟩
        | false =>
          simp only [Bool.not_false, if_true, List.length_cons]
          exact ⟨by omega, fun h => by have := ih.2 (by rcases List.mem_cons.1 h with e | e; exact absurd e hxi; exact e); omega⟩
  exact (key _).2 (List.mem_range.2 hi)
/-- the act with eight slots from base on -/
def setv (a : Act) (base : Nat) (v : Nat → Value) : Act :=
  { a with tmps := (((((((a.tmps.setIfInBounds base (v 0)).setIfInBounds (base + 1) (v 1)).setIfInBounds (base + 2) (v 2)).setIfInBounds (base + 3) (v 3)).setIfInBounds (base + 4) (v 4)).setIfInBounds (base + 5) (v 5)).setIfInBounds (base + 6) (v 6)).setIfInBounds (base + 7) (v 7) }
def updv (v : Nat → Value) (i : Nat) (x : Value) : Nat → Value := fun j => if j = i then x else v j
section
variable {P : Program} {ops : Array Oper} {Q : Exit → Act → World → Prop} {md : Region.Mode} {a0 : Act} {base : Nat}
theorem wpAny_slots (J : Array Bool → World → (Nat → Value) → Prop)
    (hstep : ∀ listed w v i, J listed w v → i ∈ Region.ready md ops listed → wpOp P ops Q i (fun a' w' => ∃ v', a' = setv a0 base v' ∧ J (listed.setIfInBounds i true) w' v') (setv a0 base v) w)
    (hend : ∀ listed w v, J listed w v → Region.ready md ops listed = [] → Q .normal (setv a0 base v) w) :
    ∀ (fuel : Nat) (listed : Array Bool) (v : Nat → Value) (w : World), leftN ops listed ≤ fuel → J listed w v → wpAny P md ops Q fuel listed (setv a0 base v) w
  | 0, listed, v, w, hf, hI => by
    have hr : Region.ready md ops listed = [] := by
      cases e : Region.ready md ops listed with
      | nil => rfl
      | cons i rs =>
        obtain ⟨h1, h2⟩ := ready_subN (md := md) (ops := ops) (listed := listed) (i := i) (by rw [e]; exact List.mem_cons_self ..)
        have := leftN_set h1 h2
        omega
    exact ⟨hr, hend listed w v hI hr⟩
  | fuel + 1, listed, v, w, hf, hI => by
    refine ⟨fun hr => hend listed w v hI hr, fun i hi => ?_⟩
    obtain ⟨h1, h2⟩ := ready_subN hi
    have hlt := leftN_set h1 h2
    refine wpOp_mono (fun a' w' h' => ?_) (hstep listed w v i hI hi)
    obtain ⟨v', rfl, hJ⟩ := h'
    exact wpAny_slots J hstep hend fuel _ v' w' (by omega) hJ
theorem wp_region_slots {id : Nat} {W : World} (J : Array Bool → World → (Nat → Value) → Prop) (hm : P.follows .mixedOrders = true)
    (ha : a0 = setv a0 base (fun i => a0.tmps[base + i]?.getD undef))
    (h0 : J (Array.replicate ops.size false) W.drew (fun i => a0.tmps[base + i]?.getD undef))
    (hstep : ∀ listed w v i, J listed w v → i ∈ Region.ready .any ops listed → wpOp P ops Q i (fun a' w' => ∃ v', a' = setv a0 base v' ∧ J (listed.setIfInBounds i true) w' v') (setv a0 base v) w)
    (hend : ∀ listed w v, J listed w v → Region.ready .any ops listed = [] → Q .normal (setv a0 base v) w) : (Code.region id ops true).wp P Q a0 W := by
  refine wp_region_any hm ?_
  have h := wpAny_slots (a0 := a0) (base := base) J hstep hend ops.size (Array.replicate ops.size false) _ W.drew (Nat.le_trans (List.length_filter_le _ _) (by simp)) h0
  rw [← ha] at h
  exact h
end
theorem ready_depN {md : Region.Mode} {ops : Array Oper} {listed : Array Bool} {i : Nat} {o : Oper} (h : i ∈ Region.ready md ops listed) (ho : ops[i]? = some o) {e : Edge} (he : e ∈ o.after) (hb : Region.binds md e = true) : listed.getD e.on false = true := by
  unfold Region.ready at h
  have h2 := (List.mem_filter.1 h).2
  rw [Bool.and_eq_true, ho] at h2
  have h3 := h2.2
  simp only [Option.map_some, Option.getD_some, Array.all_eq_true'] at h3
  have := h3 e he
  simpa [hb] using this
theorem ready_allN {md : Region.Mode} {ops : Array Oper} {listed : Array Bool} (hchk : (List.range ops.size).all (fun i => ((ops[i]?).map fun o => o.after.all fun e => decide (e.on < i)).getD true) = true)
    (hls : listed.size = ops.size) (hr : Region.ready md ops listed = []) : ∀ i, i < ops.size → listed.getD i false = true := by
  intro i
  induction i using Nat.strongRecOn with
  | ind i ih =>
    intro hi
    cases hl : listed.getD i true with
    | true =>
      rw [Array.getD_eq_getD_getElem?] at hl ⊢
      rw [Array.getElem?_eq_getElem (by omega)] at hl ⊢
      exact hl
    | false =>
      exfalso
      have hmem : i ∈ Region.ready md ops listed := by
        unfold Region.ready
        refine List.mem_filter.2 ⟨List.mem_range.2 hi, ?_⟩
        rw [Bool.and_eq_true]
        refine ⟨by rw [hl]; rfl, ?_⟩
        rw [Array.getElem?_eq_getElem hi]
        simp only [Option.map_some, Option.getD_some, Array.all_eq_true']
        intro e he
        have h1 := List.all_eq_true.1 hchk i (List.mem_range.2 hi)
        rw [Array.getElem?_eq_getElem hi] at h1
        simp only [Option.map_some, Option.getD_some, Array.all_eq_true', decide_eq_true_eq] at h1
        have h2 := h1 e he
        rw [ih e.on h2 (by omega)]
        simp
      rw [hr] at hmem
      cases hmem
end
section
open Go.RowKit
def setS (a : Act) : List Nat → (Nat → Value) → Act
  | [], _ => a
  | s :: r, v => setS { a with tmps := a.tmps.setIfInBounds s (v s) } r v
section
variable {P : Program} {ops : Array Oper} {Q : Exit → Act → World → Prop} {md : Region.Mode} {a0 : Act} {slots : List Nat}
theorem wpAny_S (J : Array Bool → World → (Nat → Value) → Prop)
    (hstep : ∀ listed w v i, J listed w v → i ∈ Region.ready md ops listed → wpOp P ops Q i (fun a' w' => ∃ v', a' = setS a0 slots v' ∧ J (listed.setIfInBounds i true) w' v') (setS a0 slots v) w)
    (hend : ∀ listed w v, J listed w v → Region.ready md ops listed = [] → Q .normal (setS a0 slots v) w) :
    ∀ (fuel : Nat) (listed : Array Bool) (v : Nat → Value) (w : World), leftN ops listed ≤ fuel → J listed w v → wpAny P md ops Q fuel listed (setS a0 slots v) w
  | 0, listed, v, w, hf, hI => by
    have hr : Region.ready md ops listed = [] := by
      cases e : Region.ready md ops listed with
      | nil => rfl
      | cons i rs =>
        obtain ⟨h1, h2⟩ := ready_subN (md := md) (ops := ops) (listed := listed) (i := i) (by rw [e]; exact List.mem_cons_self ..)
        have := leftN_set h1 h2
        omega
    exact ⟨hr, hend listed w v hI hr⟩
  | fuel + 1, listed, v, w, hf, hI => by
    refine ⟨fun hr => hend listed w v hI hr, fun i hi => ?_⟩
    obtain ⟨h1, h2⟩ := ready_subN hi
    have hlt := leftN_set h1 h2
    refine wpOp_mono (fun a' w' h' => ?_) (hstep listed w v i hI hi)
    obtain ⟨v', rfl, hJ⟩ := h'
    exact wpAny_S J hstep hend fuel _ v' w' (by omega) hJ
theorem wp_region_S {id : Nat} {W : World} (slots : List Nat) (J : Array Bool → World → (Nat → Value) → Prop) (hm : P.follows .mixedOrders = true)
    (ha : a0 = setS a0 slots (fun i => a0.tmps[i]?.getD undef))
    (h0 : J (Array.replicate ops.size false) W.drew (fun i => a0.tmps[i]?.getD undef))
    (hstep : ∀ listed w v i, J listed w v → i ∈ Region.ready .any ops listed → wpOp P ops Q i (fun a' w' => ∃ v', a' = setS a0 slots v' ∧ J (listed.setIfInBounds i true) w' v') (setS a0 slots v) w)
    (hend : ∀ listed w v, J listed w v → Region.ready .any ops listed = [] → Q .normal (setS a0 slots v) w) : (Code.region id ops true).wp P Q a0 W := by
  refine wp_region_any hm ?_
  have h := wpAny_S (a0 := a0) (slots := slots) J hstep hend ops.size (Array.replicate ops.size false) _ W.drew (Nat.le_trans (List.length_filter_le _ _) (by simp)) h0
  rw [← ha] at h
  exact h
end
theorem unl {listed : Array Bool} {N i : Nat} (hs : listed.size = N) (hi : i < N) (h : listed.getD i true = false) : listed.getD i false = false := by
  rw [Array.getD_eq_getD_getElem?, Array.getElem?_eq_getElem (by omega)] at h ⊢
  exact h
end
end
section
section
variable {P : Program} {ops : Array Oper} {Q : Exit → Act → World → Prop} {md : Region.Mode}
/-- the post ahead of the last operation -/
def QL (P : Program) (ops : Array Oper) (Q : Exit → Act → World → Prop) (N : Nat) : Exit → Act → World → Prop
  | .normal, a, w => wpOp P ops Q N (fun a' w' => Q .normal a' w') a w
  | _, _, _ => False
theorem QL.no {N : Nat} (e : Exit) (a : Act) (w : World) (he : e ≠ .normal) (h : QL P ops Q N e a w) : Q e a w := by
  cases e <;> first | exact absurd rfl he | exact h.elim
theorem wp_impQ {o : Oper} {a : Act} {w : World} {K : Act → World → Prop} {Q' : Exit → Act → World → Prop} (h : ∀ e a w, e ≠ .normal → Q' e a w → Q e a w) (hh : o.wp P a w K Q') : o.wp P a w K Q := by
  unfold Oper.wp at *
  generalize (execOp a.eval o).run P w = r at *
  have hl : LetsOut Q' → LetsOut Q := fun ⟨a, w, hq⟩ => ⟨a, w, h _ _ _ (by simp) hq⟩
  cases r with
  | ok n w' =>
    cases n <;> simp only [Oper.upon] at hh ⊢ <;> try exact hh
    all_goals
      refine hh.mono ?_
      intro e w''
      cases e
      · exact fun hq => hq
      · exact fun hq => h _ _ _ (by simp) hq
      · exact fun hq => hl hq
  | halt x w' => cases x <;> simp only [Oper.upon] at hh ⊢ <;> first | exact hh | exact h _ _ _ (by simp) hh
theorem pop_at {i : Nat} (hi : i + 1 < ops.size) : ops.pop[i]? = ops[i]? := by
  rw [Array.getElem?_pop, if_pos (by omega)]
/-- what the law asks of the operations: edges and guards point backwards; the last one waits for every other -/
def lastOk (md : Region.Mode) (ops : Array Oper) (N : Nat) : Bool :=
  ops.size == N + 1 && (List.range (N + 1)).all (fun i => ((ops[i]?).map fun o => o.after.all (fun e => decide (e.on < i)) && (match o.guard with | none => true | some (j, _) => decide (j < i))).getD false) &&
  (List.range N).all (fun j => (List.range (N + 1)).any fun k => decide (j < k) && ((ops[k]?).map fun o => o.after.any fun e => Region.binds md e && e.on == j).getD false)
theorem ready_allL {ops : Array Oper} {listed : Array Bool} (hchk : ∀ (i : Nat) (o : Oper), ops[i]? = some o → ∀ e ∈ o.after, e.on < i)
    (hls : listed.size = ops.size) (hr : Region.ready md ops listed = []) : ∀ i, i < ops.size → listed.getD i false = true := by
  intro i
  induction i using Nat.strongRecOn with
  | ind i ih =>
    intro hi
    cases hl : listed.getD i true with
    | true =>
      rw [Array.getD_eq_getD_getElem?] at hl ⊢
      rw [Array.getElem?_eq_getElem (by omega)] at hl ⊢
      exact hl
    | false =>
      exfalso
      have hmem : i ∈ Region.ready md ops listed := by
        unfold Region.ready
        refine List.mem_filter.2 ⟨List.mem_range.2 hi, ?_⟩
        rw [Bool.and_eq_true]
        refine ⟨by rw [hl]; rfl, ?_⟩
        rw [Array.getElem?_eq_getElem hi]
        simp only [Option.map_some, Option.getD_some, Array.all_eq_true']
        intro e he
        have h3 := hchk i _ (Array.getElem?_eq_getElem hi) e he
        rw [ih e.on h3 (by omega)]
        simp
      rw [hr] at hmem
      cases hmem
theorem getD_push {l : Array Bool} {j : Nat} {b d : Bool} (h : j < l.size) : (l.push b).getD j d = l.getD j d := by
  rw [Array.getD_eq_getD_getElem?, Array.getD_eq_getD_getElem?, Array.getElem?_push, if_neg (by omega)]
theorem getD_push_last {l : Array Bool} {b d : Bool} : (l.push b).getD l.size d = b := by
  rw [Array.getD_eq_getD_getElem?, Array.getElem?_push, if_pos rfl]
  rfl
theorem set_push {l : Array Bool} {i : Nat} {b c : Bool} (h : i < l.size) : (l.push b).setIfInBounds i c = (l.setIfInBounds i c).push b := by
  apply Array.ext_getElem?
  intro k
  simp only [Array.getElem?_setIfInBounds, Array.getElem?_push, Array.size_push, Array.size_setIfInBounds]
  by_cases hk : i = k
  · subst hk
    simp [h, Nat.ne_of_lt h, Nat.lt_succ_of_lt h]
  · simp [hk]
/-- whatever is listed, what it waits for is listed -/
def Closed (md : Region.Mode) (ops : Array Oper) (N : Nat) (l : Array Bool) : Prop := ∀ (k : Nat) (o : Oper), k < N → ops[k]? = some o → l.getD k false = true → ∀ e ∈ o.after, Region.binds md e = true → l.getD e.on false = true
theorem wpAny_last {N : Nat} (hs : ops.size = N + 1) (hon : ∀ (i : Nat) (o : Oper), ops[i]? = some o → ∀ e ∈ o.after, e.on < i) (hgd : ∀ (i : Nat) (o : Oper) (j : Nat) (b : Bool), ops[i]? = some o → o.guard = some (j, b) → j < i)
    (haf : ∀ (j : Nat), j < N → ∃ (k : Nat) (o : Oper), j < k ∧ k ≤ N ∧ ops[k]? = some o ∧ ∃ e ∈ o.after, Region.binds md e = true ∧ e.on = j) :
    ∀ (fuel : Nat) (l : Array Bool) (a : Act) (w : World), l.size = N → Closed md ops N l → wpAny P md ops.pop (QL P ops Q N) fuel l a w → wpAny P md ops Q (fuel + 1) (l.push false) a w := by
  have hps : ops.pop.size = N := by rw [Array.size_pop, hs]; rfl
  have hpon : ∀ (i : Nat) (o : Oper), ops.pop[i]? = some o → ∀ e ∈ o.after, e.on < i := fun i o h => by
    have hi : i < N := by have := (Array.getElem?_eq_some_iff.1 h).1; omega
    rw [pop_at (by omega)] at h
    exact hon i o h
  -- who may come up
  have hrd : ∀ (l : Array Bool), l.size = N → ∀ i, i < N → (i ∈ Region.ready md ops (l.push false) ↔ i ∈ Region.ready md ops.pop l) := by
    intro l hl i hi
    unfold Region.ready
    rw [List.mem_filter, List.mem_filter, List.mem_range, List.mem_range, pop_at (by omega), getD_push (by omega)]
    have hio : i < ops.size := by omega
    have hip : i < ops.pop.size := by omega
    simp only [hio, hip, true_and, Bool.and_eq_true]
    have he : (Option.map (fun x : Oper => x.after.all fun e => !Region.binds md e || (l.push false).getD e.on false) ops[i]?).getD false = (Option.map (fun x : Oper => x.after.all fun e => !Region.binds md e || l.getD e.on false) ops[i]?).getD false := by
      rw [Array.getElem?_eq_getElem hio]
      simp only [Option.map_some, Option.getD_some]
      rw [Bool.eq_iff_iff, Array.all_eq_true', Array.all_eq_true']
      have h1 : ∀ e ∈ ops[i].after, (l.push false).getD e.on false = l.getD e.on false := fun e hm => getD_push (by have := hon i _ (Array.getElem?_eq_getElem hio) e hm; omega)
      exact ⟨fun h e hm => by rw [← h1 e hm]; exact h e hm, fun h e hm => by rw [h1 e hm]; exact h e hm⟩
    rw [he]
  have hrN : ∀ (l : Array Bool), l.size = N → Closed md ops N l → N ∈ Region.ready md ops (l.push false) → ∀ j, j < N → l.getD j false = true := by
    intro l hl hcl hN
    unfold Region.ready at hN
    rw [List.mem_filter, Bool.and_eq_true, Array.getElem?_eq_getElem (by omega)] at hN
    simp only [Option.map_some, Option.getD_some, Array.all_eq_true'] at hN
    have key : ∀ d j, j < N → N - j ≤ d → l.getD j false = true := by
      intro d
      induction d with
      | zero => intro j hj hd; omega
      | succ d ih =>
        intro j hj hd
        obtain ⟨k, o, hjk, hkN, ho, e, hm, hb, hon'⟩ := haf j hj
        rcases Nat.lt_or_ge k N with hk | hk
        · have := hcl k o hk ho (ih k hk (by omega)) e hm hb
          rwa [hon'] at this
        · obtain rfl : k = N := by omega
          rw [Array.getElem?_eq_getElem (by omega)] at ho
          have ho := Option.some.inj ho
          have := hN.2.2 e (by rw [ho]; exact hm)
          rw [hb, hon', getD_push (by omega)] at this
          simpa using this
    exact fun j hj => key (N - j) j hj (Nat.le_refl _)
  -- the last step
  have hlast : ∀ (fuel : Nat) (l : Array Bool) (a : Act) (w : World), l.size = N → Region.ready md ops.pop l = [] → QL P ops Q N .normal a w → wpAny P md ops Q (fuel + 1) (l.push false) a w := by
    intro fuel l a w hl hr hq
    have hall := ready_allL hpon (by omega) hr
    rw [hps] at hall
    have hdone : ∀ i, i ∉ Region.ready md ops ((l.push false).setIfInBounds N true) := fun i hi => by
      obtain ⟨h1, h2⟩ := ready_subN hi
      have h3 : i < N + 1 := by omega
      by_cases e : i = N
      · subst e
        rw [getD_setN (by rw [Array.size_push]; omega), if_pos rfl] at h2
        cases h2
      · rw [getD_setN (by rw [Array.size_push]; omega), if_neg (Ne.symm e), getD_push (by omega)] at h2
        have h4 := hall i (by omega)
        rw [Array.getD_eq_getD_getElem?, Array.getElem?_eq_getElem (by omega)] at h2 h4
        simp at h2 h4
        rw [h2] at h4
        cases h4
    have hend : Region.ready md ops ((l.push false).setIfInBounds N true) = [] := List.eq_nil_iff_forall_not_mem.2 hdone
    have hNr : N ∈ Region.ready md ops (l.push false) := by
      unfold Region.ready
      refine List.mem_filter.2 ⟨List.mem_range.2 (by omega), ?_⟩
      rw [Bool.and_eq_true]
      refine ⟨by rw [← hl, getD_push_last]; rfl, ?_⟩
      rw [Array.getElem?_eq_getElem (by omega)]
      simp only [Option.map_some, Option.getD_some, Array.all_eq_true']
      intro e he
      have h3 := hon N _ (Array.getElem?_eq_getElem (by omega)) e he
      rw [getD_push (by omega), hall e.on h3]
      simp
    refine ⟨fun h => (by rw [h] at hNr; cases hNr), fun i hi => ?_⟩
    have hiN : i = N := by
      have h1 := (ready_subN hi).1
      by_cases e : i = N
      · exact e
      · have := (hrd l hl i (by omega)).1 hi
        rw [hr] at this; cases this
    subst hiN
    refine wpOp_mono (fun a' w' hq' => ?_) hq
    cases fuel with
    | zero => exact ⟨hend, hq'⟩
    | succ f => exact ⟨fun _ => hq', fun j hj => absurd hj (hdone j)⟩
  intro fuel
  induction fuel with
  | zero => intro l a w hl _ h; exact hlast 0 l a w hl h.1 h.2
  | succ fuel ih =>
    intro l a w hl hcl h
    by_cases hr : Region.ready md ops.pop l = []
    · exact hlast _ l a w hl hr (h.1 hr)
    · obtain ⟨i0, hi0⟩ := List.exists_mem_of_ne_nil _ hr
      have hi0N : i0 < N := by have := (ready_subN hi0).1; omega
      refine ⟨fun h0 => ?_, fun i hi => ?_⟩
      · have := (hrd l hl i0 hi0N).2 hi0
        rw [h0] at this; cases this
      · have hiN : i < N := by
          have h1 := (ready_subN hi).1
          rcases Nat.lt_or_ge i N with h2 | h2
          · exact h2
          · exfalso
            have e : i = N := by omega
            subst e
            have h3 := hrN l hl hcl hi i0 hi0N
            have h4 := (ready_subN hi0).2
            rw [Array.getD_eq_getD_getElem?, Array.getElem?_eq_getElem (by omega)] at h3 h4
            simp at h3 h4
            rw [h3] at h4; cases h4
        have h2 := h.2 i ((hrd l hl i hiN).1 hi)
        unfold wpOp at h2 ⊢
        rw [pop_at (by omega), Array.getElem?_eq_getElem (by omega)] at h2
        rw [Array.getElem?_eq_getElem (by omega)]
        simp only at h2 ⊢
        have hw : Region.wanted ops[i] (yielded ops.pop a.tmps) = Region.wanted ops[i] (yielded ops a.tmps) := by
          unfold Region.wanted
          cases hg : ops[i].guard with
          | none => rfl
          | some jb =>
            obtain ⟨j, b⟩ := jb
            have hj := hgd i _ j b (Array.getElem?_eq_getElem (by omega)) hg
            simp only [yielded, pop_at (show j + 1 < ops.size by omega)]
        rw [hw] at h2
        have hk : ∀ a' w', wpAny P md ops.pop (QL P ops Q N) fuel (l.setIfInBounds i true) a' w' → wpAny P md ops Q (fuel + 1) ((l.push false).setIfInBounds i true) a' w' := fun a' w' hh => by
          rw [set_push (by omega)]
          refine ih _ a' w' (by rw [Array.size_setIfInBounds]; exact hl) ?_ hh
          intro k o hk ho hlk e he hb
          by_cases hee : e.on = i
          · rw [hee, getD_setN (by omega), if_pos rfl]
          · rw [getD_setN (by omega), if_neg (Ne.symm hee)]
            by_cases hki : k = i
            · subst hki
              have h5 := (hrd l hl k hiN).1 hi
              unfold Region.ready at h5
              rw [List.mem_filter, Bool.and_eq_true, pop_at (by omega), ho] at h5
              simp only [Option.map_some, Option.getD_some, Array.all_eq_true'] at h5
              have h6 := h5.2.2 e he
              rw [hb] at h6
              simpa using h6
            · rw [getD_setN (by omega), if_neg (Ne.symm hki)] at hlk
              exact hcl k o hk ho hlk e he hb
        split at h2
        · rename_i hwt
          rw [if_pos hwt]
          rcases h2 with h2 | ⟨h2, a', w', h3⟩
          · exact .inl (wp_impQ QL.no (Oper.wp_mono hk h2))
          · exact (h3 : False).elim
        · rename_i hwt
          rw [if_neg hwt]
          exact hk _ _ h2
/-- THE LAW: the region without its last operation, under a condition S; then the last operation. -/
theorem wpAny_lastH {N : Nat} {S : World → Prop} {a : Act} {w : World} (hok : lastOk .any ops N = true) (hS : S w.drew)
    (h : S w.drew → wpAnyH P .any ops.pop (QL P ops Q N) S N (Array.replicate N false) a w.drew) : wpAny P .any ops Q ops.size (Array.replicate ops.size false) a w.drew := by
  unfold lastOk at hok
  rw [Bool.and_eq_true, Bool.and_eq_true, beq_iff_eq, List.all_eq_true, List.all_eq_true] at hok
  obtain ⟨⟨h1, h2⟩, h3⟩ := hok
  have hat : ∀ (i : Nat) (o : Oper), ops[i]? = some o → (o.after.all (fun e => decide (e.on < i)) && (match o.guard with | none => true | some (j, _) => decide (j < i))) = true := fun i o ho => by
    have := h2 i (List.mem_range.2 (by have := (Array.getElem?_eq_some_iff.1 ho).1; omega))
    rw [ho] at this
    simpa using this
  have hrep : Array.replicate ops.size false = (Array.replicate N false).push false := by
    rw [h1]
    apply Array.ext'
    simp [List.replicate_succ']
  rw [hrep, h1]
  refine wpAny_last h1 (fun i o ho e he => ?_) (fun i o j b ho hg => ?_) (fun j hj => ?_) N _ a _ (by simp) (fun k o hk ho hlk => ?_) (wpAny_of_held _ _ _ _ (h hS))
  · have := hat i o ho
    rw [Bool.and_eq_true, Array.all_eq_true'] at this
    exact of_decide_eq_true (this.1 e he)
  · have := hat i o ho
    rw [Bool.and_eq_true, hg] at this
    exact of_decide_eq_true this.2
  · have := h3 j (List.mem_range.2 hj)
    rw [List.any_eq_true] at this
    obtain ⟨k, hk, h4⟩ := this
    rw [Bool.and_eq_true, decide_eq_true_iff] at h4
    obtain ⟨hjk, h5⟩ := h4
    have hkN : k < N + 1 := List.mem_range.1 hk
    rw [Array.getElem?_eq_getElem (by omega)] at h5
    simp only [Option.map_some, Option.getD_some, Array.any_eq_true', Bool.and_eq_true, beq_iff_eq] at h5
    obtain ⟨e, he, hb, hj⟩ := h5
    exact ⟨k, _, hjk, by omega, Array.getElem?_eq_getElem (by omega), e, he, hb, hj⟩
  · rw [Array.getD_eq_getD_getElem?, Array.getElem?_replicate] at hlk
    split at hlk <;> cases hlk
theorem wp_region_lastH {id N : Nat} {S : World → Prop} {a : Act} {w : World} (hm : P.follows .mixedOrders = true) (hok : lastOk .any ops N = true) (hS : S w.drew)
    (h : S w.drew → wpAnyH P .any ops.pop (QL P ops Q N) S N (Array.replicate N false) a w.drew) : (Code.region id ops true).wp P Q a w := wp_region_any hm (wpAny_lastH hok hS h)
end
end
end Go.Proofs.YtldgjahpmlafgaaGreat
