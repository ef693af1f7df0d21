/- EntryCovers is proved: for every input the law returns true, and every argument reads afterwards as before. No condition. -/
import Derived.Test.YtjdecoiciecfpaaNInv
import Derived.Deep.RegionHeld3
import Derived.Test.YtjdecoiciecfpaaGPre
import Derived.Test.YtjdecoiciecfpaaGCovR
import Derived.Test.YtjdecoiciecfpaaGMt
import Derived.Test.YtjdecoiciecfpaaGRef
import Derived.Test.YtjdecoiciecfpaaGBg
import Derived.Test.YtjdecoiciecfpaaCmp
import Derived.Test.YtjdecoiciecfpaaOpenB
import Derived.Test.YtjdecoiciecfpaaGEnt
import Derived.OpenShut
import Derived.Deep.Slices
import Derived.Test.YtjdecoiciecfpaaJRead
import Derived.Maps.RangeWalk
namespace Go.Proofs.Ytjdecoiciecfpaa
section
section
variable {P : Program} {ops : Array Oper} {Q : Exit → Act → World → Prop} {md : Region.Mode}
/-- the post ahead of the last operation -/
def QL (P : Program) (ops : Array Oper) (Q : Exit → Act → World → Prop) (N : Nat) : Exit → Act → World → Prop
  | .normal, a, w => wpOp P ops Q N (fun a' w' => Q .normal a' w') a w
  | _, _, _ => False
theorem QL.no {N : Nat} (e : Exit) (a : Act) (w : World) (he : e ≠ .normal) (h : QL P ops Q N e a w) : Q e a w := by
  cases e <;> first | exact absurd rfl he | exact h.elim
theorem wp_impQ {o : Oper} {a : Act} {w : World} {K : Act → World → Prop} {Q' : Exit → Act → World → Prop} (h : ∀ e a w, e ≠ .normal → Q' e a w → Q e a w) (hh : o.wp P a w K Q') : o.wp P a w K Q := by
  unfold Oper.wp at *
  generalize (execOp a.eval o).run P w = r at *
  have hl : LetsOut Q' → LetsOut Q := fun ⟨a, w, hq⟩ => ⟨a, w, h _ _ _ (by simp) hq⟩
  cases r with
  | ok n w' =>
    cases n <;> simp only [Oper.upon] at hh ⊢ <;> try exact hh
    all_goals
      refine hh.mono ?_
      intro e w''
      cases e
      · exact fun hq => hq
      · exact fun hq => h _ _ _ (by simp) hq
      · exact fun hq => hl hq
  | halt x w' => cases x <;> simp only [Oper.upon] at hh ⊢ <;> first | exact hh | exact h _ _ _ (by simp) hh
theorem pop_at {i : Nat} (hi : i + 1 < ops.size) : ops.pop[i]? = ops[i]? := by
  rw [Array.getElem?_pop, if_pos (by omega)]
/-- what the law asks of the operations: edges and guards point backwards; the last one waits for every other -/
def lastOk (md : Region.Mode) (ops : Array Oper) (N : Nat) : Bool :=
  ops.size == N + 1 && (List.range (N + 1)).all (fun i => ((ops[i]?).map fun o => o.after.all (fun e => decide (e.on < i)) && (match o.guard with | none => true | some (j, _) => decide (j < i))).getD false) &&
  (List.range N).all (fun j => (List.range (N + 1)).any fun k => decide (j < k) && ((ops[k]?).map fun o => o.after.any fun e => Region.binds md e && e.on == j).getD false)
theorem ready_allL {ops : Array Oper} {listed : Array Bool} (hchk : ∀ (i : Nat) (o : Oper), ops[i]? = some o → ∀ e ∈ o.after, e.on < i)
    (hls : listed.size = ops.size) (hr : Region.ready md ops listed = []) : ∀ i, i < ops.size → listed.getD i false = true := by
  intro i
  induction i using Nat.strongRecOn with
  | ind i ih =>
    intro hi
    cases hl : listed.getD i true with
    | true =>
      rw [Array.getD_eq_getD_getElem?] at hl ⊢
      rw [Array.getElem?_eq_getElem (by omega)] at hl ⊢
      exact hl
    | false =>
      exfalso
      have hmem : i ∈ Region.ready md ops listed := by
        unfold Region.ready
        refine List.mem_filter.2 ⟨List.mem_range.2 hi, ?_⟩
        rw [Bool.and_eq_true]
        refine ⟨by rw [hl]; rfl, ?_⟩
        rw [Array.getElem?_eq_getElem hi]
        simp only [Option.map_some, Option.getD_some, Array.all_eq_true']
        intro e he
        have h3 := hchk i _ (Array.getElem?_eq_getElem hi) e he
        rw [ih e.on h3 (by omega)]
        simp
      rw [hr] at hmem
      cases hmem
theorem getD_push {l : Array Bool} {j : Nat} {b d : Bool} (h : j < l.size) : (l.push b).getD j d = l.getD j d := by
  rw [Array.getD_eq_getD_getElem?, Array.getD_eq_getD_getElem?, Array.getElem?_push, if_neg (by omega)]
theorem getD_push_last {l : Array Bool} {b d : Bool} : (l.push b).getD l.size d = b := by
  rw [Array.getD_eq_getD_getElem?, Array.getElem?_push, if_pos rfl]
  rfl
theorem set_push {l : Array Bool} {i : Nat} {b c : Bool} (h : i < l.size) : (l.push b).setIfInBounds i c = (l.setIfInBounds i c).push b := by
  apply Array.ext_getElem?
  intro k
  simp only [Array.getElem?_setIfInBounds, Array.getElem?_push, Array.size_push, Array.size_setIfInBounds]
  by_cases hk : i = k
  · subst hk
    simp [h, Nat.ne_of_lt h, Nat.lt_succ_of_lt h]
  · simp [hk]
/-- whatever is listed, what it waits for is listed -/
def Closed (md : Region.Mode) (ops : Array Oper) (N : Nat) (l : Array Bool) : Prop := ∀ (k : Nat) (o : Oper), k < N → ops[k]? = some o → l.getD k false = true → ∀ e ∈ o.after, Region.binds md e = true → l.getD e.on false = true
theorem wpAny_last {N : Nat} (hs : ops.size = N + 1) (hon : ∀ (i : Nat) (o : Oper), ops[i]? = some o → ∀ e ∈ o.after, e.on < i) (hgd : ∀ (i : Nat) (o : Oper) (j : Nat) (b : Bool), ops[i]? = some o → o.guard = some (j, b) → j < i)
    (haf : ∀ (j : Nat), j < N → ∃ (k : Nat) (o : Oper), j < k ∧ k ≤ N ∧ ops[k]? = some o ∧ ∃ e ∈ o.after, Region.binds md e = true ∧ e.on = j) :
    ∀ (fuel : Nat) (l : Array Bool) (a : Act) (w : World), l.size = N → Closed md ops N l → wpAny P md ops.pop (QL P ops Q N) fuel l a w → wpAny P md ops Q (fuel + 1) (l.push false) a w := by
  have hps : ops.pop.size = N := by rw [Array.size_pop, hs]; rfl
  have hpon : ∀ (i : Nat) (o : Oper), ops.pop[i]? = some o → ∀ e ∈ o.after, e.on < i := fun i o h => by
    have hi : i < N := by have := (Array.getElem?_eq_some_iff.1 h).1; omega
    rw [pop_at (by omega)] at h
    exact hon i o h
  -- who may come up
  have hrd : ∀ (l : Array Bool), l.size = N → ∀ i, i < N → (i ∈ Region.ready md ops (l.push false) ↔ i ∈ Region.ready md ops.pop l) := by
    intro l hl i hi
    unfold Region.ready
    rw [List.mem_filter, List.mem_filter, List.mem_range, List.mem_range, pop_at (by omega), getD_push (by omega)]
    have hio : i < ops.size := by omega
    have hip : i < ops.pop.size := by omega
    simp only [hio, hip, true_and, Bool.and_eq_true]
    have he : (Option.map (fun x : Oper => x.after.all fun e => !Region.binds md e || (l.push false).getD e.on false) ops[i]?).getD false = (Option.map (fun x : Oper => x.after.all fun e => !Region.binds md e || l.getD e.on false) ops[i]?).getD false := by
      rw [Array.getElem?_eq_getElem hio]
      simp only [Option.map_some, Option.getD_some]
      rw [Bool.eq_iff_iff, Array.all_eq_true', Array.all_eq_true']
      have h1 : ∀ e ∈ ops[i].after, (l.push false).getD e.on false = l.getD e.on false := fun e hm => getD_push (by have := hon i _ (Array.getElem?_eq_getElem hio) e hm; omega)
      exact ⟨fun h e hm => by rw [← h1 e hm]; exact h e hm, fun h e hm => by rw [h1 e hm]; exact h e hm⟩
    rw [he]
  have hrN : ∀ (l : Array Bool), l.size = N → Closed md ops N l → N ∈ Region.ready md ops (l.push false) → ∀ j, j < N → l.getD j false = true := by
    intro l hl hcl hN
    unfold Region.ready at hN
    rw [List.mem_filter, Bool.and_eq_true, Array.getElem?_eq_getElem (by omega)] at hN
    simp only [Option.map_some, Option.getD_some, Array.all_eq_true'] at hN
    have key : ∀ d j, j < N → N - j ≤ d → l.getD j false = true := by
      intro d
      induction d with
      | zero => intro j hj hd; omega
      | succ d ih =>
        intro j hj hd
        obtain ⟨k, o, hjk, hkN, ho, e, hm, hb, hon'⟩ := haf j hj
        rcases Nat.lt_or_ge k N with hk | hk
        · have := hcl k o hk ho (ih k hk (by omega)) e hm hb
          rwa [hon'] at this
        · obtain rfl : k = N := by omega
          rw [Array.getElem?_eq_getElem (by omega)] at ho
          have ho := Option.some.inj ho
          have := hN.2.2 e (by rw [ho]; exact hm)
          rw [hb, hon', getD_push (by omega)] at this
          simpa using this
    exact fun j hj => key (N - j) j hj (Nat.le_refl _)
  -- the last step
  have hlast : ∀ (fuel : Nat) (l : Array Bool) (a : Act) (w : World), l.size = N → Region.ready md ops.pop l = [] → QL P ops Q N .normal a w → wpAny P md ops Q (fuel + 1) (l.push false) a w := by
    intro fuel l a w hl hr hq
    have hall := ready_allL hpon (by omega) hr
    rw [hps] at hall
    have hdone : ∀ i, i ∉ Region.ready md ops ((l.push false).setIfInBounds N true) := fun i hi => by
      obtain ⟨h1, h2⟩ := ready_subN hi
      have h3 : i < N + 1 := by omega
      by_cases e : i = N
      · subst e
        rw [getD_setN (by rw [Array.size_push]; omega), if_pos rfl] at h2
        cases h2
      · rw [getD_setN (by rw [Array.size_push]; omega), if_neg (Ne.symm e), getD_push (by omega)] at h2
        have h4 := hall i (by omega)
        rw [Array.getD_eq_getD_getElem?, Array.getElem?_eq_getElem (by omega)] at h2 h4
        simp at h2 h4
        rw [h2] at h4
        cases h4
    have hend : Region.ready md ops ((l.push false).setIfInBounds N true) = [] := List.eq_nil_iff_forall_not_mem.2 hdone
    have hNr : N ∈ Region.ready md ops (l.push false) := by
      unfold Region.ready
      refine List.mem_filter.2 ⟨List.mem_range.2 (by omega), ?_⟩
      rw [Bool.and_eq_true]
      refine ⟨by rw [← hl, getD_push_last]; rfl, ?_⟩
      rw [Array.getElem?_eq_getElem (by omega)]
      simp only [Option.map_some, Option.getD_some, Array.all_eq_true']
      intro e he
      have h3 := hon N _ (Array.getElem?_eq_getElem (by omega)) e he
      rw [getD_push (by omega), hall e.on h3]
      simp
    refine ⟨fun h => (by rw [h] at hNr; cases hNr), fun i hi => ?_⟩
    have hiN : i = N := by
      have h1 := (ready_subN hi).1
      by_cases e : i = N
      · exact e
      · have := (hrd l hl i (by omega)).1 hi
        rw [hr] at this; cases this
    subst hiN
    refine wpOp_mono (fun a' w' hq' => ?_) hq
    cases fuel with
    | zero => exact ⟨hend, hq'⟩
    | succ f => exact ⟨fun _ => hq', fun j hj => absurd hj (hdone j)⟩
  intro fuel
  induction fuel with
  | zero => intro l a w hl _ h; exact hlast 0 l a w hl h.1 h.2
  | succ fuel ih =>
    intro l a w hl hcl h
    by_cases hr : Region.ready md ops.pop l = []
    · exact hlast _ l a w hl hr (h.1 hr)
    · obtain ⟨i0, hi0⟩ := List.exists_mem_of_ne_nil _ hr
      have hi0N : i0 < N := by have := (ready_subN hi0).1; omega
      refine ⟨fun h0 => ?_, fun i hi => ?_⟩
      · have := (hrd l hl i0 hi0N).2 hi0
        rw [h0] at this; cases this
      · have hiN : i < N := by
          have h1 := (ready_subN hi).1
          rcases Nat.lt_or_ge i N with h2 | h2
          · exact h2
          · exfalso
            have e : i = N := by omega
            subst e
            have h3 := hrN l hl hcl hi i0 hi0N
            have h4 := (ready_subN hi0).2
            rw [Array.getD_eq_getD_getElem?, Array.getElem?_eq_getElem (by omega)] at h3 h4
            simp at h3 h4
            rw [h3] at h4; cases h4
        have h2 := h.2 i ((hrd l hl i hiN).1 hi)
        unfold wpOp at h2 ⊢
        rw [pop_at (by omega), Array.getElem?_eq_getElem (by omega)] at h2
        rw [Array.getElem?_eq_getElem (by omega)]
        simp only at h2 ⊢
        have hw : Region.wanted ops[i] (yielded ops.pop a.tmps) = Region.wanted ops[i] (yielded ops a.tmps) := by
          unfold Region.wanted
          cases hg : ops[i].guard with
          | none => rfl
          | some jb =>
            obtain ⟨j, b⟩ := jb
            have hj := hgd i _ j b (Array.getElem?_eq_getElem (by omega)) hg
            simp only [yielded, pop_at (show j + 1 < ops.size by omega)]
        rw [hw] at h2
        have hk : ∀ a' w', wpAny P md ops.pop (QL P ops Q N) fuel (l.setIfInBounds i true) a' w' → wpAny P md ops Q (fuel + 1) ((l.push false).setIfInBounds i true) a' w' := fun a' w' hh => by
          rw [set_push (by omega)]
          refine ih _ a' w' (by rw [Array.size_setIfInBounds]; exact hl) ?_ hh
          intro k o hk ho hlk e he hb
          by_cases hee : e.on = i
          · rw [hee, getD_setN (by omega), if_pos rfl]
          · rw [getD_setN (by omega), if_neg (Ne.symm hee)]
            by_cases hki : k = i
            · subst hki
              have h5 := (hrd l hl k hiN).1 hi
              unfold Region.ready at h5
              rw [List.mem_filter, Bool.and_eq_true, pop_at (by omega), ho] at h5
              simp only [Option.map_some, Option.getD_some, Array.all_eq_true'] at h5
              have h6 := h5.2.2 e he
              rw [hb] at h6
              simpa using h6
            · rw [getD_setN (by omega), if_neg (Ne.symm hki)] at hlk
              exact hcl k o hk ho hlk e he hb
        split at h2
        · rename_i hwt
          rw [if_pos hwt]
          rcases h2 with h2 | ⟨h2, a', w', h3⟩
          · exact .inl (wp_impQ QL.no (Oper.wp_mono hk h2))
          · exact (h3 : False).elim
        · rename_i hwt
          rw [if_neg hwt]
          exact hk _ _ h2
/-- THE LAW: the region without its last operation, under a condition S; then the last operation. -/
theorem wp_region_lastH {id N : Nat} {S : World → Prop} {a : Act} {w : World} (hm : P.follows .mixedOrders = true) (hok : lastOk .any ops N = true) (hS : S w.drew)
    (h : S w.drew → wpAnyH P .any ops.pop (QL P ops Q N) S N (Array.replicate N false) a w.drew) : (Code.region id ops true).wp P Q a w := by
  unfold lastOk at hok
  rw [Bool.and_eq_true, Bool.and_eq_true, beq_iff_eq, List.all_eq_true, List.all_eq_true] at hok
  obtain ⟨⟨h1, h2⟩, h3⟩ := hok
  have hat : ∀ (i : Nat) (o : Oper), ops[i]? = some o → (o.after.all (fun e => decide (e.on < i)) && (match o.guard with | none => true | some (j, _) => decide (j < i))) = true := fun i o ho => by
    have := h2 i (List.mem_range.2 (by have := (Array.getElem?_eq_some_iff.1 ho).1; omega))
    rw [ho] at this
    simpa using this
  refine wp_region_any hm ?_
  have hrep : Array.replicate ops.size false = (Array.replicate N false).push false := by
    rw [h1]
    apply Array.ext'
    simp [List.replicate_succ']
  rw [hrep, h1]
  refine wpAny_last h1 (fun i o ho e he => ?_) (fun i o j b ho hg => ?_) (fun j hj => ?_) N _ a _ (by simp) (fun k o hk ho hlk => ?_) (wpAny_of_held _ _ _ _ (h hS))
  · have := hat i o ho
    rw [Bool.and_eq_true, Array.all_eq_true'] at this
    exact of_decide_eq_true (this.1 e he)
  · have := hat i o ho
    rw [Bool.and_eq_true, hg] at this
    exact of_decide_eq_true this.2
  · have := h3 j (List.mem_range.2 hj)
    rw [List.any_eq_true] at this
    obtain ⟨k, hk, h4⟩ := this
    rw [Bool.and_eq_true, decide_eq_true_iff] at h4
    obtain ⟨hjk, h5⟩ := h4
    have hkN : k < N + 1 := List.mem_range.1 hk
    rw [Array.getElem?_eq_getElem (by omega)] at h5
    simp only [Option.map_some, Option.getD_some, Array.any_eq_true', Bool.and_eq_true, beq_iff_eq] at h5
    obtain ⟨e, he, hb, hj⟩ := h5
    exact ⟨k, _, hjk, by omega, Array.getElem?_eq_getElem (by omega), e, he, hb, hj⟩
  · rw [Array.getD_eq_getD_getElem?, Array.getElem?_replicate] at hlk
    split at hlk <;> cases hlk
end
end
end Go.Proofs.Ytjdecoiciecfpaa
namespace Go.Proofs.Ytjdecoiciecfpaa
section
open Go.RowKit

structure OneJ (N : Nat) (slot : Nat → Nat) (c : Nat → Value) (bs : Nat) (W0 : World) (Z F : Array Value) (T : TypeId) (listed : Array Bool) (w : World) (v : Nat → Value) : Prop where
  size : listed.size = N + 2
  below : Below W0.heap.size W0 w
  f : ∀ i, i < N → listed.getD i false = true → v (slot i) = c i
  p0 : listed.getD N false = false → listed.getD (N + 1) false = false
  p : listed.getD N false = true → ∃ X, v bs = .pointer (some ⟨X, 0, none⟩) ∧ W0.heap.size ≤ X ∧ X < w.heap.size ∧ (listed.getD (N + 1) false = false → w.heap[X]? = some (.cells Z T (0, 0))) ∧ (listed.getD (N + 1) false = true → w.heap[X]? = some (.cells F T (0, 0)))
theorem getD_replO (k i : Nat) : (Array.replicate k false).getD i false = false := by
  rw [Array.getD_eq_getD_getElem?, Array.getElem?_replicate]
  split <;> rfl
theorem ready_allO {md : Region.Mode} {ops : Array Oper} {listed : Array Bool} (hchk : (List.range ops.size).all (fun i => ((ops[i]?).map fun o => o.after.all fun e => !Region.binds md e || decide (e.on < i)).getD true) = true)
    (hls : listed.size = ops.size) (hr : Region.ready md ops listed = []) : ∀ i, i < ops.size → listed.getD i false = true := by
  intro i
  induction i using Nat.strongRecOn with
  | ind i ih =>
    intro hi
    cases hl : listed.getD i true with
    | true =>
      rw [Array.getD_eq_getD_getElem?] at hl ⊢
      rw [Array.getElem?_eq_getElem (by omega)] at hl ⊢
      exact hl
    | false =>
      exfalso
      have hmem : i ∈ Region.ready md ops listed := by
        unfold Region.ready
        refine List.mem_filter.2 ⟨List.mem_range.2 hi, ?_⟩
        rw [Bool.and_eq_true]
        refine ⟨by rw [hl]; rfl, ?_⟩
        rw [Array.getElem?_eq_getElem hi]
        simp only [Option.map_some, Option.getD_some, Array.all_eq_true']
        intro e he
        have h1 := List.all_eq_true.1 hchk i (List.mem_range.2 hi)
        rw [Array.getElem?_eq_getElem hi] at h1
        simp only [Option.map_some, Option.getD_some, Array.all_eq_true'] at h1
        have h2 := h1 e he
        cases hb : Region.binds md e
        · simp
        · rw [hb] at h2
          have h3 : e.on < i := by simpa using h2
          rw [ih e.on h3 (by omega)]
          simp
      rw [hr] at hmem
      cases hmem
theorem OneJ.begun {N : Nat} {slot : Nat → Nat} {c : Nat → Value} {bs : Nat} {W0 : World} {Z F : Array Value} {T : TypeId} {v : Nat → Value} {k : Nat} (hk : k = N + 2) : OneJ N slot c bs W0 Z F T (Array.replicate k false) W0.drew v :=
  ⟨by simp [hk], Below.drew (Below.refl _ _), fun i _ h => (by rw [getD_replO] at h; cases h), fun _ => getD_replO _ _, fun h => (by rw [getD_replO] at h; cases h)⟩
theorem OneJ.val {N : Nat} {slot : Nat → Nat} {c : Nat → Value} {bs : Nat} {W0 : World} {Z F : Array Value} {T : TypeId} {listed : Array Bool} {w w' : World} {v : Nat → Value} (h : OneJ N slot c bs W0 Z F T listed w v) {i : Nat} (hi : i < N) (hs : ∀ j, j < N → j ≠ i → slot j ≠ slot i) (hb : slot i ≠ bs) (hw : Below w.heap.size w w') {u : Value} (hu : u = c i) : OneJ N slot c bs W0 Z F T (listed.setIfInBounds i true) w' (updv v (slot i) u) := by
  have g : ∀ j, j ≠ i → (listed.setIfInBounds i true).getD j false = listed.getD j false := fun j hj => by rw [getD_setN (by rw [h.size]; omega), if_neg (Ne.symm hj)]
  have hv : updv v (slot i) u bs = v bs := by rw [updv, if_neg (Ne.symm hb)]
  refine ⟨by rw [Array.size_setIfInBounds]; exact h.size, h.below.trans (hw.mono h.below.size), fun j hj hl => ?_, fun hl => ?_, fun hl => ?_⟩
  · by_cases e : j = i
    · subst e
      rw [updv, if_pos rfl]; exact hu
    · rw [g j e] at hl
      rw [updv, if_neg (hs j hj e)]
      exact h.f j hj hl
  · rw [g N (by omega)] at hl
    rw [g (N + 1) (by omega)]
    exact h.p0 hl
  · rw [g N (by omega)] at hl
    rw [hv, g (N + 1) (by omega)]
    obtain ⟨X, e, h1, h2, h3, h4⟩ := h.p hl
    exact ⟨X, e, h1, Nat.lt_of_lt_of_le h2 hw.size, fun hf => (hw.block X h2).trans (h3 hf), fun hf => (hw.block X h2).trans (h4 hf)⟩
theorem OneJ.alloc {N : Nat} {slot : Nat → Nat} {c : Nat → Value} {bs : Nat} {W0 : World} {Z F : Array Value} {T : TypeId} {listed : Array Bool} {w : World} {v : Nat → Value} (h : OneJ N slot c bs W0 Z F T listed w v) (hs : ∀ j, j < N → slot j ≠ bs) (hl0 : listed.getD N false = false) : OneJ N slot c bs W0 Z F T (listed.setIfInBounds N true) (w.alloc (.cells Z T)) (updv v bs (.pointer (some ⟨w.heap.size, 0, none⟩))) := by
  have g : ∀ j, j ≠ N → (listed.setIfInBounds N true).getD j false = listed.getD j false := fun j hj => by rw [getD_setN (by rw [h.size]; omega), if_neg (Ne.symm hj)]
  have gt : (listed.setIfInBounds N true).getD N false = true := by rw [getD_setN (by rw [h.size]; omega), if_pos rfl]
  refine ⟨by rw [Array.size_setIfInBounds]; exact h.size, h.below.alloc h.below.size _, fun j hj hl => ?_, fun hl => ?_, fun hl => ?_⟩
  · rw [g j (by omega)] at hl
    rw [updv, if_neg (hs j hj)]
    exact h.f j hj hl
  · rw [gt] at hl; cases hl
  · rw [updv, if_pos rfl, g (N + 1) (by omega)]
    exact ⟨w.heap.size, rfl, h.below.size, by simp, fun _ => heap_alloc_new w _, fun hf => by rw [h.p0 hl0] at hf; cases hf⟩
theorem OneJ.store {N : Nat} {slot : Nat → Nat} {c : Nat → Value} {bs : Nat} {W0 : World} {Z F : Array Value} {T : TypeId} {listed : Array Bool} {w w' : World} {v : Nat → Value} (h : OneJ N slot c bs W0 Z F T listed w v) {X : Nat} (hlN : listed.getD N false = true) (hX : v bs = .pointer (some ⟨X, 0, none⟩)) (hX0 : W0.heap.size ≤ X) (hXl : X < w.heap.size) (hz : w.heap.size ≤ w'.heap.size) (hb : w'.heap[X]? = some (.cells F T (0, 0))) (hw : Below W0.heap.size W0 w') : OneJ N slot c bs W0 Z F T (listed.setIfInBounds (N + 1) true) w' v := by
  have g : ∀ j, j ≠ N + 1 → (listed.setIfInBounds (N + 1) true).getD j false = listed.getD j false := fun j hj => by rw [getD_setN (by rw [h.size]; omega), if_neg (Ne.symm hj)]
  have gt : (listed.setIfInBounds (N + 1) true).getD (N + 1) false = true := by rw [getD_setN (by rw [h.size]; omega), if_pos rfl]
  refine ⟨by rw [Array.size_setIfInBounds]; exact h.size, hw, fun j hj hl => ?_, fun hl => ?_, fun hl => ?_⟩
  · rw [g j (by omega)] at hl
    exact h.f j hj hl
  · rw [g N (by omega), hlN] at hl
    cases hl
  · rw [gt]
    exact ⟨X, hX, hX0, Nat.lt_of_lt_of_le hXl hz, fun hf => (by cases hf), fun _ => hb⟩
end
end Go.Proofs.Ytjdecoiciecfpaa
namespace Go.Proofs.Ytjdecoiciecfpaa
section
open Go.RowKit

def slOne : List Nat := [10, 11, 12, 13, 14, 15, 16, 17, 7]
theorem below_sets8 {B k : Nat} {w0 w : World} (h : Below B w0 w) (hk : B ≤ k) (v0 v1 v2 v3 v4 v5 v6 v7 : Value) : Below B w0 ((((((((w.setCell ⟨k, 0, none⟩ v0).setCell ⟨k, 1, none⟩ v1).setCell ⟨k, 2, none⟩ v2).setCell ⟨k, 3, none⟩ v3).setCell ⟨k, 4, none⟩ v4).setCell ⟨k, 5, none⟩ v5).setCell ⟨k, 6, none⟩ v6).setCell ⟨k, 7, none⟩ v7) := h.trans (below_set8 w hk v0 v1 v2 v3 v4 v5 v6 v7)
set_option maxRecDepth 100000 in
set_option maxHeartbeats 1000000 in
theorem g_rMatches {w : World} {B : Nat} {A0 : Option Addr} {n0 c0 : Nat} {s1 s2 s3 : Value} {A4 : Option Addr} {n4 c4 : Nat} {s5 s6 s7 : Value} {x : SchemaD} (h : SchM w B (.slice A0 n0 c0) s1 s2 s3 (.slice A4 n4 c4) s5 s6 s7 x) (hB : B ≤ w.heap.size) (s8 s9 : Value) (e : EntryD) (A1 : Option Addr) (m1 k1 : Nat) (u : Value) (hr : RowV 8 MatchV B w (.slice A1 m1 k1) e.ms)
    (p0 p1 p2 p3 : Nat) (hp : ∀ i, pt4 p0 p1 p2 p3 i < 2 ^ 128) (r : Nat) (tb : TableD) (hrx : ixI e.table (x.tables.map (·.id)) 0 = ((r : Nat) : Int)) (ht : x.tables[r]? = some tb) (hlen : e.ms.length = tb.keys.length) (h4 : tb.keys.length ≤ 4)
    (hks : ∀ (q : Nat) (k : KeyD), tb.keys[q]? = some k → ∃ (j : Nat) (f : FieldD), ixI k.field (x.fields.map (·.id)) 0 = ((j : Nat) : Int) ∧ x.fields[j]? = some f ∧ fbits x.fields k.field = f.bits ∧ 0 ≤ f.bits ∧ f.bits ≤ 128) (hpre : ∀ m ∈ e.ms, -1000 ≤ m.pre ∧ m.pre ≤ 1000)
    (b : Bool) (hb : b = true ↔ ∀ (i : Nat) (k : KeyD) (m : MatchD), tb.keys[i]? = some k → e.ms[i]? = some m → covM m k.kind (fbits x.fields k.field) (pt4 p0 p1 p2 p3 i)) :
    Calls Try.prog 18 #[.agg #[.slice A0 n0 c0, s1, s2, s3, .slice A4 n4 c4, s5, s6, s7, s8, s9], .agg #[.int .i64 e.table, .slice A1 m1 k1, .int .i64 e.prio, .int .i64 e.action, u], .agg #[.int .u64 (hi p0), .int .u64 (lo p0), .int .u64 (hi p1), .int .u64 (lo p1), .int .u64 (hi p2), .int .u64 (lo p2), .int .u64 (hi p3), .int .u64 (lo p3)]] w (RetX (.bool b) w) := by
  obtain ⟨hn1, hc1, hm1⟩ := hr.len
  obtain ⟨hn4, hc4, hm4⟩ := h.t.len
  have hrl : r < x.tables.length := (List.getElem?_eq_some_iff.1 ht).1
  obtain ⟨gb, go, eA4, t', htk, hgB, cs, hcs, hV⟩ := row_at h.t hrl
  obtain rfl : tb = t' := by rw [htk] at ht; injection ht with ht; exact ht.symm
  obtain ⟨vk, va, vr, rfl, -, -, rk, ra, -, rr, -⟩ := hV
  subst eA4
  obtain ⟨Ak, nk, ck, rfl, hnk, hck, hmk⟩ := rk.parts
  obtain ⟨Aa, na, ca, rfl, _⟩ := ra.parts
  obtain ⟨Ar, nr, cr, rfl, _⟩ := rr.parts
  have hl : m1 = nk := by rw [hn1.out, hnk.out]; exact hlen
  subst hl
  obtain ⟨W0, hW0⟩ : ∃ W, W = (((w.alloc (.cells #[.slice A0 n0 c0, s1, s2, s3, .slice (some ⟨gb, go, none⟩) n4 c4, s5, s6, s7, s8, s9] 45)).alloc (.cells #[.int .i64 e.table, .slice A1 m1 k1, .int .i64 e.prio, .int .i64 e.action, u] 51)).alloc (.cells #[.int .u64 (hi p0), .int .u64 (lo p0), .int .u64 (hi p1), .int .u64 (lo p1), .int .u64 (hi p2), .int .u64 (lo p2), .int .u64 (hi p3), .int .u64 (lo p3)] 29)) := ⟨_, rfl⟩
  have hB0 : Below w.heap.size w W0 := by rw [hW0]; exact ((((Below.refl w.heap.size w).alloc (by simp <;> omega) _).alloc (by simp <;> omega) _).alloc (by simp <;> omega) _)
  have hz0 : W0.heap.size = w.heap.size + 3 := by rw [hW0]; simp
  have b0_0 : W0.heap[w.heap.size]? = some (.cells #[.slice A0 n0 c0, s1, s2, s3, .slice (some ⟨gb, go, none⟩) n4 c4, s5, s6, s7, s8, s9] 45 (0, 0)) := by
    rw [hW0]
    exact ((((Below.refl (w.alloc (.cells #[.slice A0 n0 c0, s1, s2, s3, .slice (some ⟨gb, go, none⟩) n4 c4, s5, s6, s7, s8, s9] 45)).heap.size (w.alloc (.cells #[.slice A0 n0 c0, s1, s2, s3, .slice (some ⟨gb, go, none⟩) n4 c4, s5, s6, s7, s8, s9] 45))).alloc (by simp <;> omega) _).alloc (by simp <;> omega) _).block w.heap.size (by simp)).trans (heap_alloc_new _ _)
  have b0_1 : W0.heap[w.heap.size + 1]? = some (.cells #[.int .i64 e.table, .slice A1 m1 k1, .int .i64 e.prio, .int .i64 e.action, u] 51 (0, 0)) := by
    rw [hW0]
    rw [show w.heap.size + 1 = (w.alloc (.cells #[.slice A0 n0 c0, s1, s2, s3, .slice (some ⟨gb, go, none⟩) n4 c4, s5, s6, s7, s8, s9] 45)).heap.size by simp]
    exact (((Below.refl ((w.alloc (.cells #[.slice A0 n0 c0, s1, s2, s3, .slice (some ⟨gb, go, none⟩) n4 c4, s5, s6, s7, s8, s9] 45)).alloc (.cells #[.int .i64 e.table, .slice A1 m1 k1, .int .i64 e.prio, .int .i64 e.action, u] 51)).heap.size ((w.alloc (.cells #[.slice A0 n0 c0, s1, s2, s3, .slice (some ⟨gb, go, none⟩) n4 c4, s5, s6, s7, s8, s9] 45)).alloc (.cells #[.int .i64 e.table, .slice A1 m1 k1, .int .i64 e.prio, .int .i64 e.action, u] 51))).alloc (by simp <;> omega) _).block (w.alloc (.cells #[.slice A0 n0 c0, s1, s2, s3, .slice (some ⟨gb, go, none⟩) n4 c4, s5, s6, s7, s8, s9] 45)).heap.size (by simp)).trans (heap_alloc_new _ _)
  have b0_2 : W0.heap[w.heap.size + 2]? = some (.cells #[.int .u64 (hi p0), .int .u64 (lo p0), .int .u64 (hi p1), .int .u64 (lo p1), .int .u64 (hi p2), .int .u64 (lo p2), .int .u64 (hi p3), .int .u64 (lo p3)] 29 (0, 0)) := by
    rw [hW0]
    rw [show w.heap.size + 2 = ((w.alloc (.cells #[.slice A0 n0 c0, s1, s2, s3, .slice (some ⟨gb, go, none⟩) n4 c4, s5, s6, s7, s8, s9] 45)).alloc (.cells #[.int .i64 e.table, .slice A1 m1 k1, .int .i64 e.prio, .int .i64 e.action, u] 51)).heap.size by simp]
    exact heap_alloc_new _ _
  have HR0 := Lib.hid h
  have HRM := Lib.hid hr
  have HB0 := Lib.hid hB0
  have HW0 := Lib.hid hW0
  have BB0 := Lib.hid b0_0
  have BB1 := Lib.hid b0_1
  have BBP := Lib.hid b0_2
  have HV := Lib.hid hb
  have HPP := Lib.hid hp
  have HKS2 := Lib.hid hks
  have HPRE := Lib.hid hpre
  have HCS := Lib.hid hcs
  have HRKW := Lib.hid rk
  have KX : Hid (∀ W, Below W0.heap.size W0 W → Calls Try.prog 58 #[.agg #[.slice A0 n0 c0, s1, s2, s3, .slice (some ⟨gb, go, none⟩) n4 c4, s5, s6, s7, s8, s9], .int .i64 e.table] W (RetX (.int .i64 (r : Int)) W)) := Lib.hid fun W hb => by
    rw [← hrx]
    exact g_rTableOf (h.below ((hB0.trans (hb.mono hB0.size)).mono hB)) (Nat.le_trans hB (Nat.le_trans hB0.size hb.size)) s8 s9 e.table
  have HKS : Hid (∀ w', Below W0.heap.size W0 w' → Below W0.heap.size W0 w' ∧ w'.cell? ⟨w.heap.size, 0, none⟩ = some (.slice A0 n0 c0) ∧ w'.cell? ⟨w.heap.size, 1, none⟩ = some (s1) ∧ w'.cell? ⟨w.heap.size, 2, none⟩ = some (s2) ∧ w'.cell? ⟨w.heap.size, 3, none⟩ = some (s3) ∧ w'.cell? ⟨w.heap.size, 4, none⟩ = some (.slice (some ⟨gb, go, none⟩) n4 c4) ∧ w'.cell? ⟨w.heap.size, 5, none⟩ = some (s5) ∧ w'.cell? ⟨w.heap.size, 6, none⟩ = some (s6) ∧ w'.cell? ⟨w.heap.size, 7, none⟩ = some (s7) ∧ w'.cell? ⟨w.heap.size, 8, none⟩ = some (s8) ∧ w'.cell? ⟨w.heap.size, 9, none⟩ = some (s9) ∧ w'.cell? ⟨w.heap.size + 1, 0, none⟩ = some (.int .i64 e.table) ∧ w'.cell? ⟨w.heap.size + 1, 1, none⟩ = some (.slice A1 m1 k1) ∧ w'.cell? ⟨w.heap.size + 1, 2, none⟩ = some (.int .i64 e.prio) ∧ w'.cell? ⟨w.heap.size + 1, 3, none⟩ = some (.int .i64 e.action) ∧ w'.cell? ⟨w.heap.size + 1, 4, none⟩ = some (u) ∧ w'.cell? ⟨gb, go + r * 8, none⟩ = some (.int .i64 tb.id) ∧ w'.cell? ⟨gb, go + r * 8 + 1, none⟩ = some (.string (strL tb.name)) ∧ w'.cell? ⟨gb, go + r * 8 + 2, none⟩ = some (.slice Ak m1 ck) ∧ w'.cell? ⟨gb, go + r * 8 + 3, none⟩ = some (.slice Aa na ca) ∧ w'.cell? ⟨gb, go + r * 8 + 4, none⟩ = some (.int .i64 tb.dflt) ∧ w'.cell? ⟨gb, go + r * 8 + 5, none⟩ = some (.slice Ar nr cr) ∧ w'.cell? ⟨gb, go + r * 8 + 6, none⟩ = some (.int .i64 tb.size) ∧ w'.cell? ⟨gb, go + r * 8 + 7, none⟩ = some (.string (strL tb.restr))) := Lib.hid fun w' hb => by
    have q0 := (hb.block w.heap.size (by omega)).trans BB0.out
    have q1 := (hb.block (w.heap.size + 1) (by omega)).trans BB1.out
    have hb' := hB0.trans (hb.mono hB0.size)
    have q : ∀ j v, [.int .i64 tb.id, .string (strL tb.name), .slice Ak m1 ck, .slice Aa na ca, .int .i64 tb.dflt, .slice Ar nr cr, .int .i64 tb.size, .string (strL tb.restr)][j]? = some v → w'.cell? ⟨gb, go + r * 8 + j, none⟩ = some v := fun j v e => by
      rw [hb'.cell (p := ⟨gb, go + r * 8 + j, none⟩) (show gb < w.heap.size by omega)]
      exact HCS.out.at j v e
    exact ⟨hb, blk_cell q0 0 _ rfl, blk_cell q0 1 _ rfl, blk_cell q0 2 _ rfl, blk_cell q0 3 _ rfl, blk_cell q0 4 _ rfl, blk_cell q0 5 _ rfl, blk_cell q0 6 _ rfl, blk_cell q0 7 _ rfl, blk_cell q0 8 _ rfl, blk_cell q0 9 _ rfl, blk_cell q1 0 _ rfl, blk_cell q1 1 _ rfl, blk_cell q1 2 _ rfl, blk_cell q1 3 _ rfl, blk_cell q1 4 _ rfl, q 0 _ rfl, q 1 _ rfl, q 2 _ rfl, q 3 _ rfl, q 4 _ rfl, q 5 _ rfl, q 6 _ rfl, q 7 _ rfl⟩
  have hr0 : 0 ≤ (r : Int) := by omega
  have hr1 : (r : Int) < (n4 : Int) := by rw [hn4.out]; omega
  have hr2 : (r : Int) < (c4 : Int) := by omega
  have h4n : m1 ≤ 4 := by rw [hnk.out]; exact h4
  clear h hr hB0 hW0 b0_0 b0_1 b0_2 hb hp hks hpre hcs rk ra rr hrx ht htk
  go_enter Try.func18, Try.ntmps18
  go_upto_region 1 with fail
  rw [← HW0.out]
  go_cut [7] from 10 to 17 (fun v7 wx => ∃ X, v7 = .pointer (some ⟨X, 0, none⟩) ∧ W0.heap.size ≤ X ∧ X < wx.heap.size ∧ Below W0.heap.size W0 wx ∧ wx.heap[X]? = some (.cells #[.int .i64 tb.id, .string (strL tb.name), .slice Ak m1 ck, .slice Aa na ca, .int .i64 tb.dflt, .slice Ar nr cr, .int .i64 tb.size, .string (strL tb.restr)] 111 (0, 0)))
  case first =>
    refine wp_region_S slOne (OneJ 8 (fun i => 10 + i) (fun i => ([.pointer (some ⟨w.heap.size, 4, none⟩), .slice (some ⟨gb, go, none⟩) n4 c4, .agg #[.slice A0 n0 c0, s1, s2, s3, .slice (some ⟨gb, go, none⟩) n4 c4, s5, s6, s7, s8, s9], .pointer (some ⟨w.heap.size + 1, 0, none⟩), .int .i64 e.table, .int .i64 (r : Int), .pointer (some ⟨gb, go + r * 8, none⟩), .agg #[.int .i64 tb.id, .string (strL tb.name), .slice Ak m1 ck, .slice Aa na ca, .int .i64 tb.dflt, .slice Ar nr cr, .int .i64 tb.size, .string (strL tb.restr)]] : List Value).getD i undef) 7 W0 #[.int .i64 0, .string ⟨#[]⟩, .slice none 0 0, .slice none 0 0, .int .i64 0, .slice none 0 0, .int .i64 0, .string ⟨#[]⟩] #[.int .i64 tb.id, .string (strL tb.name), .slice Ak m1 ck, .slice Aa na ca, .int .i64 tb.dflt, .slice Ar nr cr, .int .i64 tb.size, .string (strL tb.restr)] 111) (by kernel_rfl) ?_ ?_ ?_ ?_
    · simp [setS, slOne]
    · exact OneJ.begun rfl
    · intro listed w1 v i hJ hrd
      obtain ⟨hlt2, hun⟩ := ready_subN hrd
      have hlt3 : i < 10 := hlt2
      clear hlt2
      obtain ⟨-, a0, a1, a2, a3, a4, a5, a6, a7, a8, a9, e0, e1, e2, e3, e4, r0, r1, r2, r3, r4, r5, r6, r7⟩ := HKS.out w1 hJ.below
      match i, hlt3 with
      | 0, _ =>
        refine wpOp_step rfl (fun K' hK => ?_)
        simp only [setS, slOne, List.setIfInBounds_toArray, List.set_cons_succ, List.set_cons_zero]
        have HH := Lib.hid hK
        clear hK hrd
        go_simp
        refine HH.out _ _ ⟨updv v 10 (.pointer (some ⟨w.heap.size, 4, none⟩)), by simp [setS, slOne, updv], hJ.val (i := 0) (by decide) (fun j _ h => by omega) (by decide) (Below.refl _ _) rfl⟩
      | 1, _ =>
        have d0 : v 10 = .pointer (some ⟨w.heap.size, 4, none⟩) := hJ.f 0 (by decide) (ready_depN hrd rfl (e := ⟨0, .data⟩) (by simp) rfl)
        refine wpOp_step rfl (fun K' hK => ?_)
        simp only [setS, slOne, List.setIfInBounds_toArray, List.set_cons_succ, List.set_cons_zero]
        have HH := Lib.hid hK
        rw [d0]
        clear hK hrd
        go_simp
        refine HH.out _ _ ⟨updv v 11 (.slice (some ⟨gb, go, none⟩) n4 c4), by simp [setS, slOne, updv, d0], hJ.val (i := 1) (by decide) (fun j _ h => by omega) (by decide) (Below.refl _ _) rfl⟩
      | 2, _ =>
        refine wpOp_step rfl (fun K' hK => ?_)
        simp only [setS, slOne, List.setIfInBounds_toArray, List.set_cons_succ, List.set_cons_zero]
        have HH := Lib.hid hK
        clear hK hrd
        go_simp
        refine HH.out _ _ ⟨updv v 12 (.agg #[.slice A0 n0 c0, s1, s2, s3, .slice (some ⟨gb, go, none⟩) n4 c4, s5, s6, s7, s8, s9]), by simp [setS, slOne, updv], hJ.val (i := 2) (by decide) (fun j _ h => by omega) (by decide) (Below.refl _ _) rfl⟩
      | 3, _ =>
        refine wpOp_step rfl (fun K' hK => ?_)
        simp only [setS, slOne, List.setIfInBounds_toArray, List.set_cons_succ, List.set_cons_zero]
        have HH := Lib.hid hK
        clear hK hrd
        go_simp
        refine HH.out _ _ ⟨updv v 13 (.pointer (some ⟨w.heap.size + 1, 0, none⟩)), by simp [setS, slOne, updv], hJ.val (i := 3) (by decide) (fun j _ h => by omega) (by decide) (Below.refl _ _) rfl⟩
      | 4, _ =>
        have d3 : v 13 = .pointer (some ⟨w.heap.size + 1, 0, none⟩) := hJ.f 3 (by decide) (ready_depN hrd rfl (e := ⟨3, .data⟩) (by simp) rfl)
        refine wpOp_step rfl (fun K' hK => ?_)
        simp only [setS, slOne, List.setIfInBounds_toArray, List.set_cons_succ, List.set_cons_zero]
        have HH := Lib.hid hK
        rw [d3]
        clear hK hrd
        go_simp
        refine HH.out _ _ ⟨updv v 14 (.int .i64 e.table), by simp [setS, slOne, updv, d3], hJ.val (i := 4) (by decide) (fun j _ h => by omega) (by decide) (Below.refl _ _) rfl⟩
      | 5, _ =>
        have d2 : v 12 = .agg #[.slice A0 n0 c0, s1, s2, s3, .slice (some ⟨gb, go, none⟩) n4 c4, s5, s6, s7, s8, s9] := hJ.f 2 (by decide) (ready_depN hrd rfl (e := ⟨2, .data⟩) (by simp) rfl)
        have d4 : v 14 = .int .i64 e.table := hJ.f 4 (by decide) (ready_depN hrd rfl (e := ⟨4, .data⟩) (by simp) rfl)
        refine wpOp_step rfl (fun K' hK => ?_)
        simp only [setS, slOne, List.setIfInBounds_toArray, List.set_cons_succ, List.set_cons_zero]
        have HH := Lib.hid hK
        rw [d2, d4]
        clear hK hrd
        go_simp
        go_at_call 58
        with_reducible refine (KX.out w1 hJ.below).mono ?_
        rintro en w2 ⟨rfl, hb2⟩
        go_simp
        refine HH.out _ _ ⟨updv v 15 (.int .i64 (r : Int)), by simp [setS, slOne, updv, d2, d4], hJ.val (i := 5) (by decide) (fun j _ h => by omega) (by decide) hb2 rfl⟩
      | 6, _ =>
        have d1 : v 11 = .slice (some ⟨gb, go, none⟩) n4 c4 := hJ.f 1 (by decide) (ready_depN hrd rfl (e := ⟨1, .data⟩) (by simp) rfl)
        have d5 : v 15 = .int .i64 (r : Int) := hJ.f 5 (by decide) (ready_depN hrd rfl (e := ⟨5, .data⟩) (by simp) rfl)
        refine wpOp_step rfl (fun K' hK => ?_)
        simp only [setS, slOne, List.setIfInBounds_toArray, List.set_cons_succ, List.set_cons_zero]
        have HH := Lib.hid hK
        rw [d1, d5]
        clear hK hrd
        go_simp
        refine HH.out _ _ ⟨updv v 16 (.pointer (some ⟨gb, go + r * 8, none⟩)), by simp [setS, slOne, updv, d1, d5], hJ.val (i := 6) (by decide) (fun j _ h => by omega) (by decide) (Below.refl _ _) rfl⟩
      | 7, _ =>
        have d6 : v 16 = .pointer (some ⟨gb, go + r * 8, none⟩) := hJ.f 6 (by decide) (ready_depN hrd rfl (e := ⟨6, .data⟩) (by simp) rfl)
        refine wpOp_step rfl (fun K' hK => ?_)
        simp only [setS, slOne, List.setIfInBounds_toArray, List.set_cons_succ, List.set_cons_zero]
        have HH := Lib.hid hK
        rw [d6]
        clear hK hrd
        go_simp
        refine HH.out _ _ ⟨updv v 17 (.agg #[.int .i64 tb.id, .string (strL tb.name), .slice Ak m1 ck, .slice Aa na ca, .int .i64 tb.dflt, .slice Ar nr cr, .int .i64 tb.size, .string (strL tb.restr)]), by simp [setS, slOne, updv, d6], hJ.val (i := 7) (by decide) (fun j _ h => by omega) (by decide) (Below.refl _ _) rfl⟩
      | 8, _ =>
        have hl0 : listed.getD 8 false = false := unl hJ.size (by decide) hun
        refine wpOp_step rfl (fun K' hK => ?_)
        simp only [setS, slOne, List.setIfInBounds_toArray, List.set_cons_succ, List.set_cons_zero]
        have HH := Lib.hid hK
        clear hK hrd
        go_simp
        refine HH.out _ _ ⟨updv v 7 (.pointer (some ⟨w1.heap.size, 0, none⟩)), by simp [setS, slOne, updv], hJ.alloc (fun j _ => by omega) hl0⟩
      | 9, _ =>
        have hl0 : listed.getD 9 false = false := unl hJ.size (by decide) hun
        have hl1 : listed.getD 8 false = true := ready_depN hrd rfl (e := ⟨8, .data⟩) (by simp) rfl
        obtain ⟨X, eX, hX0, hXl, hz, _⟩ := hJ.p hl1
        have hb := hz hl0
        have d7 : v 17 = .agg #[.int .i64 tb.id, .string (strL tb.name), .slice Ak m1 ck, .slice Aa na ca, .int .i64 tb.dflt, .slice Ar nr cr, .int .i64 tb.size, .string (strL tb.restr)] := hJ.f 7 (by decide) (ready_depN hrd rfl (e := ⟨7, .data⟩) (by simp) rfl)
        have y0 : w1.cell? ⟨X, 0, none⟩ = some (.int .i64 0) := blk_cell hb 0 _ rfl
        have z0 := blk_froz hb 0
        have y1 : w1.cell? ⟨X, 1, none⟩ = some (.string ⟨#[]⟩) := blk_cell hb 1 _ rfl
        have z1 := blk_froz hb 1
        have y2 : w1.cell? ⟨X, 2, none⟩ = some (.slice none 0 0) := blk_cell hb 2 _ rfl
        have z2 := blk_froz hb 2
        have y3 : w1.cell? ⟨X, 3, none⟩ = some (.slice none 0 0) := blk_cell hb 3 _ rfl
        have z3 := blk_froz hb 3
        have y4 : w1.cell? ⟨X, 4, none⟩ = some (.int .i64 0) := blk_cell hb 4 _ rfl
        have z4 := blk_froz hb 4
        have y5 : w1.cell? ⟨X, 5, none⟩ = some (.slice none 0 0) := blk_cell hb 5 _ rfl
        have z5 := blk_froz hb 5
        have y6 : w1.cell? ⟨X, 6, none⟩ = some (.int .i64 0) := blk_cell hb 6 _ rfl
        have z6 := blk_froz hb 6
        have y7 : w1.cell? ⟨X, 7, none⟩ = some (.string ⟨#[]⟩) := blk_cell hb 7 _ rfl
        have z7 := blk_froz hb 7
        refine wpOp_step rfl (fun K' hK => ?_)
        simp only [setS, slOne, List.setIfInBounds_toArray, List.set_cons_succ, List.set_cons_zero]
        have HH := Lib.hid hK
        rw [eX, d7]
        clear hK hrd
        go_simp
        refine HH.out _ _ ⟨v, by simp [setS, slOne, eX, d7], hJ.store hl1 eX hX0 hXl (by simp [World.setCell]) (blk_set8 hb (.int .i64 tb.id) (.string (strL tb.name)) (.slice Ak m1 ck) (.slice Aa na ca) (.int .i64 tb.dflt) (.slice Ar nr cr) (.int .i64 tb.size) (.string (strL tb.restr))) (below_sets8 hJ.below hX0 (.int .i64 tb.id) (.string (strL tb.name)) (.slice Ak m1 ck) (.slice Aa na ca) (.int .i64 tb.dflt) (.slice Ar nr cr) (.int .i64 tb.size) (.string (strL tb.restr)))⟩
      | _ + 10, h => exact absurd h (by omega)
    · intro listed w1 v hJ hr
      have hall := ready_allO (by kernel_rfl) hJ.size hr
      obtain ⟨X, eX, hX0, hXl, _, hXf⟩ := hJ.p (hall 8 (by decide))
      have hXb := hXf (hall 9 (by decide))
      have hbl := hJ.below
      clear hall hr hJ hXf
      simp only [setS, slOne, List.setIfInBounds_toArray, List.set_cons_succ, List.set_cons_zero]
      rw [eX]
      go_wp2_with fail
      go_meet
      exact ⟨X, rfl, hX0, hXl, hbl, hXb⟩
  case rest =>
    obtain ⟨X, rfl, hX0, hXl, hb2, bt2⟩ := hcut
    obtain ⟨W2, hW2⟩ : ∃ z, z = wc := ⟨_, rfl⟩
    subst hW2
    have BS2 := Lib.hid ((hb2.block w.heap.size (by omega)).trans BB0.out)
    have BE2 := Lib.hid ((hb2.block (w.heap.size + 1) (by omega)).trans BB1.out)
    have BP2 := Lib.hid ((hb2.block (w.heap.size + 2) (by omega)).trans BBP.out)
    have BT2 := Lib.hid bt2
    have hz2 := hb2.size
    have HB2 := Lib.hid (HB0.out.trans (hb2.mono HB0.out.size))
    have HR2 := Lib.hid (HR0.out.below (HB2.out.mono hB))
    have HRM2 := Lib.hid (HRM.out.below kept_match (HB2.out.mono hB))
    have HRK2 := Lib.hid (HRKW.out.below kept_key (HB2.out.mono hB))
    have k2 : W2.cell? ⟨X, 2, none⟩ = some (.slice Ak m1 ck) := blk_cell BT2.out 2 _ rfl
    clear hb2 bt2 HKS KX
    go_wp2_with fail
    go_loopw [21] (fun i W => ∃ q : Nat, q ≤ m1 ∧ i = .int .i64 q ∧ Below W2.heap.size W2 W ∧ Hid (∀ (i : Nat) (k : KeyD) (m : MatchD), i < q → tb.keys[i]? = some k → e.ms[i]? = some m → covM m k.kind (fbits x.fields k.field) (pt4 p0 p1 p2 p3 i))) (fun i _ => m1 - (intOf i).toNat)
    case atStart => exact ⟨0, by omega, rfl, Below.refl _ _, Lib.hid fun i _ _ hi => absurd hi (by omega)⟩
    case round =>
      clear k2
      obtain ⟨q, hq, rfl, hbq, hxh⟩ := hrel
      have hzr := hbq.size
      have bsr := (hbq.block w.heap.size (by omega)).trans BS2.out
      have ber := (hbq.block (w.heap.size + 1) (by omega)).trans BE2.out
      have bpr := (hbq.block (w.heap.size + 2) (by omega)).trans BP2.out
      have btr := (hbq.block X (by omega)).trans BT2.out
      by_cases hlt : q < m1
      · have hkI : (q : Int) < (m1 : Int) := by omega
        have hkc : (q : Int) < (ck : Int) := by omega
        have hkc1 : (q : Int) < (k1 : Int) := by omega
        have hk0 : 0 ≤ (q : Int) := by omega
        have hk4 : (q : Int) < 4 := by omega
        have hBq : Below B W2 wr := hbq.mono (by omega)
        obtain ⟨kb, ko, e1, k, hkk, hkbB, cs, hcs, hV⟩ := row_at (HRK2.out.below kept_key hBq) (q := q) (by rw [← hnk.out]; exact hlt)
        obtain ⟨mb, mo, e2, m, hmm, hmbB, ds, hds, hVM⟩ := row_at (HRM2.out.below kept_match hBq) (q := q) (by rw [← hn1.out]; exact hlt)
        obtain ⟨rfl, -⟩ := hV
        obtain ⟨rfl, hmok⟩ := hVM
        subst e1
        subst e2
        have d0 : wr.cell? ⟨kb, ko + q * 3, none⟩ = some _ := hcs.at0 _ rfl
        have d1 : wr.cell? ⟨kb, ko + q * 3 + 1, none⟩ = some _ := hcs.at 1 _ rfl
        have d2 : wr.cell? ⟨kb, ko + q * 3 + 2, none⟩ = some _ := hcs.at 2 _ rfl
        obtain ⟨v, hv⟩ : ∃ v, v = pt4 p0 p1 p2 p3 q := ⟨_, rfl⟩
        have hv8 : v < 2 ^ 128 := by rw [hv]; exact HPP.out q
        have HVC := Lib.hid (pt4_cells p0 p1 p2 p3 q (by omega))
        rw [← hv] at HVC
        obtain ⟨j, f, hj1, hj2, hj3, hj4, hj5⟩ := HKS2.out q k hkk
        obtain ⟨hp0, hp1⟩ := HPRE.out m (List.mem_of_getElem? hmm)
        obtain ⟨W3, hW3⟩ : ∃ W, W = wr.alloc (.cells #[.string (strL k.name), .int .i64 k.field, .int .i64 k.kind] 113) := ⟨_, rfl⟩
        have hb3 : Below wr.heap.size wr W3 := by rw [hW3]; exact (Below.refl _ _).alloc (Nat.le_refl _) _
        have hz3 : W3.heap.size = wr.heap.size + 1 := by rw [hW3]; simp
        have bk3 : W3.heap[wr.heap.size]? = some (.cells #[.string (strL k.name), .int .i64 k.field, .int .i64 k.kind] 113 (0, 0)) := by rw [hW3]; exact heap_alloc_new _ _
        have HDS := Lib.hid hds
        have HKS : Hid (∀ w', Below W3.heap.size W3 w' → Below W3.heap.size W3 w' ∧ w'.cell? ⟨w.heap.size, 0, none⟩ = some (.slice A0 n0 c0) ∧ w'.cell? ⟨w.heap.size, 1, none⟩ = some (s1) ∧ w'.cell? ⟨w.heap.size, 2, none⟩ = some (s2) ∧ w'.cell? ⟨w.heap.size, 3, none⟩ = some (s3) ∧ w'.cell? ⟨w.heap.size, 4, none⟩ = some (.slice (some ⟨gb, go, none⟩) n4 c4) ∧ w'.cell? ⟨w.heap.size, 5, none⟩ = some (s5) ∧ w'.cell? ⟨w.heap.size, 6, none⟩ = some (s6) ∧ w'.cell? ⟨w.heap.size, 7, none⟩ = some (s7) ∧ w'.cell? ⟨w.heap.size, 8, none⟩ = some (s8) ∧ w'.cell? ⟨w.heap.size, 9, none⟩ = some (s9) ∧ w'.cell? ⟨w.heap.size + 1, 0, none⟩ = some (.int .i64 e.table) ∧ w'.cell? ⟨w.heap.size + 1, 1, none⟩ = some (.slice (some ⟨mb, mo, none⟩) m1 k1) ∧ w'.cell? ⟨w.heap.size + 1, 2, none⟩ = some (.int .i64 e.prio) ∧ w'.cell? ⟨w.heap.size + 1, 3, none⟩ = some (.int .i64 e.action) ∧ w'.cell? ⟨w.heap.size + 1, 4, none⟩ = some (u) ∧ w'.cell? ⟨wr.heap.size, 0, none⟩ = some (.string (strL k.name)) ∧ w'.cell? ⟨wr.heap.size, 1, none⟩ = some (.int .i64 k.field) ∧ w'.cell? ⟨wr.heap.size, 2, none⟩ = some (.int .i64 k.kind) ∧ w'.cell? ⟨X, 0, none⟩ = some (.int .i64 tb.id) ∧ w'.cell? ⟨X, 1, none⟩ = some (.string (strL tb.name)) ∧ w'.cell? ⟨X, 2, none⟩ = some (.slice (some ⟨kb, ko, none⟩) m1 ck) ∧ w'.cell? ⟨X, 3, none⟩ = some (.slice Aa na ca) ∧ w'.cell? ⟨X, 4, none⟩ = some (.int .i64 tb.dflt) ∧ w'.cell? ⟨X, 5, none⟩ = some (.slice Ar nr cr) ∧ w'.cell? ⟨X, 6, none⟩ = some (.int .i64 tb.size) ∧ w'.cell? ⟨X, 7, none⟩ = some (.string (strL tb.restr)) ∧ w'.cell? ⟨mb, mo + q * 8, none⟩ = some (.bool m.pres) ∧ w'.cell? ⟨mb, mo + q * 8 + 1, none⟩ = some (.int .u64 (hi m.val)) ∧ w'.cell? ⟨mb, mo + q * 8 + 2, none⟩ = some (.int .u64 (lo m.val)) ∧ w'.cell? ⟨mb, mo + q * 8 + 3, none⟩ = some (.int .u64 (hi m.mask)) ∧ w'.cell? ⟨mb, mo + q * 8 + 4, none⟩ = some (.int .u64 (lo m.mask)) ∧ w'.cell? ⟨mb, mo + q * 8 + 5, none⟩ = some (.int .i64 m.pre) ∧ w'.cell? ⟨mb, mo + q * 8 + 6, none⟩ = some (.int .u64 (hi m.high)) ∧ w'.cell? ⟨mb, mo + q * 8 + 7, none⟩ = some (.int .u64 (lo m.high)) ∧ w'.cell? ⟨w.heap.size + 2, q * 2, none⟩ = some (.int .u64 (hi v)) ∧ w'.cell? ⟨w.heap.size + 2, q * 2 + 1, none⟩ = some (.int .u64 (lo v))) := Lib.hid fun w' hb => by
          have hb' := hb3.trans (hb.mono hb3.size)
          have q0 := (hb'.block w.heap.size (by omega)).trans bsr
          have q1 := (hb'.block (w.heap.size + 1) (by omega)).trans ber
          have q2 := (hb.block wr.heap.size (by omega)).trans bk3
          have q3 := (hb'.block (w.heap.size + 2) (by omega)).trans bpr
          have q4 := (hb'.block X (by omega)).trans btr
          have qm : ∀ j v, [.bool m.pres, .int .u64 (hi m.val), .int .u64 (lo m.val), .int .u64 (hi m.mask), .int .u64 (lo m.mask), .int .i64 m.pre, .int .u64 (hi m.high), .int .u64 (lo m.high)][j]? = some v → w'.cell? ⟨mb, mo + q * 8 + j, none⟩ = some v := fun j v e => by
            rw [hb'.cell (p := ⟨mb, mo + q * 8 + j, none⟩) (show mb < wr.heap.size by omega)]
            exact HDS.out.at j v e
          exact ⟨hb, blk_cell q0 0 _ rfl, blk_cell q0 1 _ rfl, blk_cell q0 2 _ rfl, blk_cell q0 3 _ rfl, blk_cell q0 4 _ rfl, blk_cell q0 5 _ rfl, blk_cell q0 6 _ rfl, blk_cell q0 7 _ rfl, blk_cell q0 8 _ rfl, blk_cell q0 9 _ rfl, blk_cell q1 0 _ rfl, blk_cell q1 1 _ rfl, blk_cell q1 2 _ rfl, blk_cell q1 3 _ rfl, blk_cell q1 4 _ rfl, blk_cell q2 0 _ rfl, blk_cell q2 1 _ rfl, blk_cell q2 2 _ rfl, blk_cell q4 0 _ rfl, blk_cell q4 1 _ rfl, blk_cell q4 2 _ rfl, blk_cell q4 3 _ rfl, blk_cell q4 4 _ rfl, blk_cell q4 5 _ rfl, blk_cell q4 6 _ rfl, blk_cell q4 7 _ rfl, qm 0 _ rfl, qm 1 _ rfl, qm 2 _ rfl, qm 3 _ rfl, qm 4 _ rfl, qm 5 _ rfl, qm 6 _ rfl, qm 7 _ rfl, blk_cell q3 (q * 2) _ HVC.out.1, blk_cell q3 (q * 2 + 1) _ HVC.out.2⟩
        have KB : Hid (∀ W, Below W3.heap.size W3 W → Calls Try.prog 59 #[.agg #[.slice A0 n0 c0, s1, s2, s3, .slice (some ⟨gb, go, none⟩) n4 c4, s5, s6, s7, s8, s9], .agg #[.int .i64 tb.id, .string (strL tb.name), .slice (some ⟨kb, ko, none⟩) m1 ck, .slice Aa na ca, .int .i64 tb.dflt, .slice Ar nr cr, .int .i64 tb.size, .string (strL tb.restr)], .int .i64 (q : Int)] W (RetX (.int .i64 f.bits) W)) := Lib.hid fun W hb => by
          have hBW : Below B W2 W := hBq.trans ((hb3.mono (by omega)).trans (hb.mono (by omega)))
          exact g_rKeyBits (HR2.out.below hBW) (by have := hb.size; omega) s8 s9 _ _ _ _ _ _ _ _ _ _ tb.keys (HRK2.out.below kept_key hBW) q k hkk j f hj1 hj2
        obtain ⟨C, hC⟩ := some_bool (covM m k.kind f.bits v)
        have KC : Hid (∀ W, Calls Try.prog 12 #[.agg #[.bool m.pres, .int .u64 (hi m.val), .int .u64 (lo m.val), .int .u64 (hi m.mask), .int .u64 (lo m.mask), .int .i64 m.pre, .int .u64 (hi m.high), .int .u64 (lo m.high)], .int .i64 k.kind, .int .i64 f.bits, .agg #[.int .u64 (hi v), .int .u64 (lo v)]] W (RetX (.bool C) W)) := Lib.hid fun W => by rw [← dec_of hC]; exact g_rCovers m hmok k.kind f.bits hj4 hj5 hp0 hp1 v hv8 W
        rw [hv, ← hj3] at hC
        have HC := Lib.hid hC
        have HW3 := Lib.hid hW3
        have HKK := Lib.hid (And.intro hkk hmm)
        have HB3 := Lib.hid (hbq.trans (hb3.mono hzr))
        clear hC hcs hds hkk hmm hW3 hb3 bk3 hBq bsr ber bpr btr hbq hmok hv hv8 hj1 hj2 hj3
        go_upto_region 5 with fail
        rw [← HW3.out]
        clear d0 d1 d2
        go_region_held3 (fun w' => Below W3.heap.size W3 w' ∧ w'.cell? ⟨w.heap.size, 0, none⟩ = some (.slice A0 n0 c0) ∧ w'.cell? ⟨w.heap.size, 1, none⟩ = some (s1) ∧ w'.cell? ⟨w.heap.size, 2, none⟩ = some (s2) ∧ w'.cell? ⟨w.heap.size, 3, none⟩ = some (s3) ∧ w'.cell? ⟨w.heap.size, 4, none⟩ = some (.slice (some ⟨gb, go, none⟩) n4 c4) ∧ w'.cell? ⟨w.heap.size, 5, none⟩ = some (s5) ∧ w'.cell? ⟨w.heap.size, 6, none⟩ = some (s6) ∧ w'.cell? ⟨w.heap.size, 7, none⟩ = some (s7) ∧ w'.cell? ⟨w.heap.size, 8, none⟩ = some (s8) ∧ w'.cell? ⟨w.heap.size, 9, none⟩ = some (s9) ∧ w'.cell? ⟨w.heap.size + 1, 0, none⟩ = some (.int .i64 e.table) ∧ w'.cell? ⟨w.heap.size + 1, 1, none⟩ = some (.slice (some ⟨mb, mo, none⟩) m1 k1) ∧ w'.cell? ⟨w.heap.size + 1, 2, none⟩ = some (.int .i64 e.prio) ∧ w'.cell? ⟨w.heap.size + 1, 3, none⟩ = some (.int .i64 e.action) ∧ w'.cell? ⟨w.heap.size + 1, 4, none⟩ = some (u) ∧ w'.cell? ⟨wr.heap.size, 0, none⟩ = some (.string (strL k.name)) ∧ w'.cell? ⟨wr.heap.size, 1, none⟩ = some (.int .i64 k.field) ∧ w'.cell? ⟨wr.heap.size, 2, none⟩ = some (.int .i64 k.kind) ∧ w'.cell? ⟨X, 0, none⟩ = some (.int .i64 tb.id) ∧ w'.cell? ⟨X, 1, none⟩ = some (.string (strL tb.name)) ∧ w'.cell? ⟨X, 2, none⟩ = some (.slice (some ⟨kb, ko, none⟩) m1 ck) ∧ w'.cell? ⟨X, 3, none⟩ = some (.slice Aa na ca) ∧ w'.cell? ⟨X, 4, none⟩ = some (.int .i64 tb.dflt) ∧ w'.cell? ⟨X, 5, none⟩ = some (.slice Ar nr cr) ∧ w'.cell? ⟨X, 6, none⟩ = some (.int .i64 tb.size) ∧ w'.cell? ⟨X, 7, none⟩ = some (.string (strL tb.restr)) ∧ w'.cell? ⟨mb, mo + q * 8, none⟩ = some (.bool m.pres) ∧ w'.cell? ⟨mb, mo + q * 8 + 1, none⟩ = some (.int .u64 (hi m.val)) ∧ w'.cell? ⟨mb, mo + q * 8 + 2, none⟩ = some (.int .u64 (lo m.val)) ∧ w'.cell? ⟨mb, mo + q * 8 + 3, none⟩ = some (.int .u64 (hi m.mask)) ∧ w'.cell? ⟨mb, mo + q * 8 + 4, none⟩ = some (.int .u64 (lo m.mask)) ∧ w'.cell? ⟨mb, mo + q * 8 + 5, none⟩ = some (.int .i64 m.pre) ∧ w'.cell? ⟨mb, mo + q * 8 + 6, none⟩ = some (.int .u64 (hi m.high)) ∧ w'.cell? ⟨mb, mo + q * 8 + 7, none⟩ = some (.int .u64 (lo m.high)) ∧ w'.cell? ⟨w.heap.size + 2, q * 2, none⟩ = some (.int .u64 (hi v)) ∧ w'.cell? ⟨w.heap.size + 2, q * 2 + 1, none⟩ = some (.int .u64 (lo v)))
          (first
            | exact HKS.out _ (Below.drew (Below.refl _ _))
            | exact HKS.out _ (below_call (And.left (by assumption)) (by assumption))
            | assumption)
          (first
            | (go_at_call 59; (with_reducible refine (KB.out _ (And.left (by assumption))).mono ?_); rintro en v1 ⟨rfl, hv1⟩)
            | (go_at_call 12; (with_reducible refine (KC.out _).mono ?_); rintro en v2 ⟨rfl, hv2⟩))
        cases C
        · have hbF : b = false := bool_no HV.out (fun h => by
            have := HC.out.2 (h q k m HKK.out.1 HKK.out.2)
            exact absurd this (by decide))
          subst hbF
          all_goals go_wp2_with fail
          all_goals go_ret
          all_goals exact ⟨rfl, HB2.out.trans ((HB3.out.trans ((And.left (by assumption : Below W3.heap.size W3 _ ∧ _)).mono HB3.out.size)).mono HB2.out.size)⟩
        · have HX2 : Hid (∀ (i : Nat) (k : KeyD) (m : MatchD), i < q + 1 → tb.keys[i]? = some k → e.ms[i]? = some m → covM m k.kind (fbits x.fields k.field) (pt4 p0 p1 p2 p3 i)) := Lib.hid fun i k' m' hi hk' hm' => by
            rcases Nat.lt_or_ge i q with h | h
            · exact hxh.out i k' m' h hk' hm'
            · obtain rfl : i = q := by omega
              rw [HKK.out.1] at hk'
              rw [HKK.out.2] at hm'
              injection hk' with hk'
              injection hm' with hm'
              subst hk'
              subst hm'
              exact HC.out.1 rfl
          all_goals go_wp2_with fail
          all_goals go_roundw
          all_goals have hBZ := And.left (by assumption : Below W3.heap.size W3 _ ∧ _)
          all_goals go_light
          case measure => simp [intOf]; omega
          case rel => exact ⟨q + 1, by omega, by simp, HB3.out.trans (hBZ.mono HB3.out.size), HX2⟩
      · obtain rfl : m1 = q := by omega
        have hbT : b = true := HV.out.2 fun i k m hk hm => hxh.out i k m (by rw [hnk.out]; exact (List.getElem?_eq_some_iff.1 hk).1) hk hm
        subst hbT
        have hkI : ¬ (m1 : Int) < (m1 : Int) := by omega
        have HBZ := Lib.hid (HB2.out.trans (hbq.mono HB2.out.size))
        clear hxh bsr ber bpr btr hbq
        go_wp2_with fail
        go_ret
        exact ⟨rfl, HBZ.out⟩
end
end Go.Proofs.Ytjdecoiciecfpaa
namespace Go.Proofs.Ytjdecoiciecfpaa
section
open Go.RowKit

def preL (ms : List MatchD) : List KeyD → Nat → Int
  | [], _ => 0
  | k :: r, j => if k.kind = 2 ∧ j < ms.length then ((ms[j]?).map (·.pre)).getD 0 else preL ms r (j + 1)
theorem preL_off (ms : List MatchD) : ∀ (ks : List KeyD) (j : Nat), ms.length ≤ j → preL ms ks j = 0
  | [], _, _ => rfl
  | k :: r, j, h => by
    rw [preL, if_neg (by omega)]
    exact preL_off ms r (j + 1) (by omega)
theorem preL_is (ms : List MatchD) : ∀ (ks : List KeyD) (j : Nat), preL ms ks j = match ixI 2 (ks.map (·.kind)) j with
    | .ofNat i => ((ms[i]?).map (·.pre)).getD 0
    | .negSucc _ => 0
  | [], _ => rfl
  | k :: r, j => by
    rw [preL, List.map_cons, ixI]
    by_cases h : k.kind = 2
    · rw [if_pos h]
      by_cases hj : j < ms.length
      · rw [if_pos ⟨h, hj⟩]
      · rw [if_neg (by omega), preL_off ms r (j + 1) (by omega)]
        show 0 = ((ms[j]?).map (·.pre)).getD 0
        rw [List.getElem?_eq_none (by omega)]; rfl
    · rw [if_neg h, if_neg (fun e => h e.1)]
      exact preL_is ms r (j + 1)
theorem preE_L (ts : List TableD) (e : EntryD) : preE ts e = preL e.ms (tabOr ts e.table).keys 0 := by
  rw [preL_is]; rfl
set_option maxRecDepth 100000 in
set_option maxHeartbeats 4000000 in
theorem g_rPrefix {w : World} {B : Nat} {s0 s1 s2 s3 s4 s5 s6 s7 : Value} {x : SchemaD} (h : SchM w B s0 s1 s2 s3 s4 s5 s6 s7 x) (hB : B ≤ w.heap.size) (s8 s9 : Value) (e : EntryD) (Ae : Option Addr) (me ke : Nat) (u : Value) (hr : RowV 8 MatchV B w (.slice Ae me ke) e.ms) :
    Calls Try.prog 20 #[.agg #[s0, s1, s2, s3, s4, s5, s6, s7, s8, s9], .agg #[.int .i64 e.table, .slice Ae me ke, .int .i64 e.prio, .int .i64 e.action, u]] w (RetX (.int .i64 (preE x.tables e)) w) := by
  rw [preE_L]
  obtain ⟨hn1, hc1, hm1⟩ := hr.len
  obtain ⟨A0, n0, c0, rfl, _⟩ := h.f.parts
  obtain ⟨A1, n1, c1, rfl, _⟩ := h.h.parts
  obtain ⟨A2, n2, c2, rfl, _⟩ := h.st.parts
  obtain ⟨A3, n3, c3, rfl, _⟩ := h.a.parts
  obtain ⟨A4, n4, c4, rfl, _⟩ := h.t.parts
  obtain ⟨A5, n5, c5, rfl, _⟩ := h.sg.parts
  obtain ⟨A6, n6, c6, rfl, _⟩ := h.r.parts
  obtain ⟨A7, n7, c7, rfl, _⟩ := h.rf.parts
  obtain ⟨hn4, hc4, hm4⟩ := h.t.len
  obtain ⟨W0, hW0⟩ : ∃ W, W = ((w.alloc (.cells #[.slice A0 n0 c0, .slice A1 n1 c1, .slice A2 n2 c2, .slice A3 n3 c3, .slice A4 n4 c4, .slice A5 n5 c5, .slice A6 n6 c6, .slice A7 n7 c7, s8, s9] 45)).alloc (.cells #[.int .i64 e.table, .slice Ae me ke, .int .i64 e.prio, .int .i64 e.action, u] 51)) := ⟨_, rfl⟩
  have hB0 : Below w.heap.size w W0 := by rw [hW0]; exact (((Below.refl w.heap.size w).alloc (by simp <;> omega) _).alloc (by simp <;> omega) _)
  have hz0 : W0.heap.size = w.heap.size + 2 := by rw [hW0]; simp
  have b0_0 : W0.heap[w.heap.size]? = some (.cells #[.slice A0 n0 c0, .slice A1 n1 c1, .slice A2 n2 c2, .slice A3 n3 c3, .slice A4 n4 c4, .slice A5 n5 c5, .slice A6 n6 c6, .slice A7 n7 c7, s8, s9] 45 (0, 0)) := by
    rw [hW0]
    exact (((Below.refl (w.alloc (.cells #[.slice A0 n0 c0, .slice A1 n1 c1, .slice A2 n2 c2, .slice A3 n3 c3, .slice A4 n4 c4, .slice A5 n5 c5, .slice A6 n6 c6, .slice A7 n7 c7, s8, s9] 45)).heap.size (w.alloc (.cells #[.slice A0 n0 c0, .slice A1 n1 c1, .slice A2 n2 c2, .slice A3 n3 c3, .slice A4 n4 c4, .slice A5 n5 c5, .slice A6 n6 c6, .slice A7 n7 c7, s8, s9] 45))).alloc (by simp <;> omega) _).block w.heap.size (by simp)).trans (heap_alloc_new _ _)
  have b0_1 : W0.heap[w.heap.size + 1]? = some (.cells #[.int .i64 e.table, .slice Ae me ke, .int .i64 e.prio, .int .i64 e.action, u] 51 (0, 0)) := by
    rw [hW0]
    rw [show w.heap.size + 1 = (w.alloc (.cells #[.slice A0 n0 c0, .slice A1 n1 c1, .slice A2 n2 c2, .slice A3 n3 c3, .slice A4 n4 c4, .slice A5 n5 c5, .slice A6 n6 c6, .slice A7 n7 c7, s8, s9] 45)).heap.size by simp]
    exact heap_alloc_new _ _
  have KX := Lib.hid (g_rTableOf (h.below (hB0.mono hB)) (Nat.le_trans hB hB0.size) s8 s9 e.table)
  have HR := Lib.hid hr
  have HT := Lib.hid h.t
  have HB0 := Lib.hid hB0
  have HW0 := Lib.hid hW0
  have Hb0 := Lib.hid b0_0
  have Hb1 := Lib.hid b0_1
  obtain ⟨r, hrr⟩ : ∃ r, r = preL e.ms (tabOr x.tables e.table).keys 0 := ⟨_, rfl⟩
  rw [← hrr]
  have HPR := Lib.hid hrr
  clear h hr hB0 hW0 b0_0 b0_1 hrr
  go_enter Try.func20, Try.ntmps20
  go_wp2_with fail
  rw [← HW0.out]
  refine KX.out.mono ?_
  rintro en w1 ⟨rfl, hb1⟩
  have HB1 := Lib.hid (HB0.out.trans (hb1.mono HB0.out.size))
  have d0 := (hb1.block w.heap.size (by omega)).trans Hb0.out
  have d1 := (hb1.block (w.heap.size + 1) (by omega)).trans Hb1.out
  have c4' : w1.cell? ⟨w.heap.size, 4, none⟩ = some (.slice A4 n4 c4) := blk_cell d0 4 _ rfl
  have HT1 := Lib.hid (HT.out.below kept_table (HB1.out.mono hB))
  have hz1 : w.heap.size + 2 ≤ w1.heap.size := by have := hb1.size; omega
  have Hd1 := Lib.hid d1
  clear hb1 KX d0 d1
  rcases tbl_is x.tables e.table with ⟨e1, e2⟩ | ⟨j, t, e1, e2, -, e4⟩
  · rw [e1]
    have hv : r = 0 := by rw [HPR.out, tabOr, e2]; rfl
    subst hv
    clear e1 e2
    go_wp2_with fail
    go_ret
    exact ⟨rfl, HB1.out⟩
  · rw [e1]
    have hjn : j < x.tables.length := (List.getElem?_eq_some_iff.1 e2).1
    have hj1 : ¬ (j : Int) < 0 := by omega
    have hj2 : (j : Int) < (n4 : Int) := by rw [hn4.out]; omega
    have hj3 : 0 ≤ (j : Int) := by omega
    have hj4 : (j : Int) < (c4 : Int) := by omega
    obtain ⟨g, oo, e5, y, hyk, hgB, cs, hcs, hV⟩ := row_at HT1.out hjn
    have ex : y = t := by rw [hyk] at e2; injection e2
    subst ex
    obtain ⟨vk, va, vr, rfl, -, -, rk, -, -, -, -⟩ := hV
    subst e5
    obtain ⟨Ak, nk, ck, rfl, hnk, hck, hmk⟩ := rk.parts
    have q2 : w1.cell? ⟨g, oo + j * 8 + 2, none⟩ = some _ := hcs.at 2 _ rfl
    have HRK := Lib.hid rk
    have hval : r = preL e.ms y.keys 0 := by rw [HPR.out, tabOr, e4]; rfl
    have HVL := Lib.hid hval
    clear e1 e2 e4 hyk hcs rk hval
    go_wp2_with fail
    go_loopw [21] (fun i W => ∃ k : Nat, k ≤ nk ∧ i = .int .i64 k ∧ Below w1.heap.size w1 W ∧ Hid (r = preL e.ms (y.keys.drop k) k)) (fun i _ => nk - (intOf i).toNat)
    case atStart => exact ⟨0, by omega, rfl, Below.refl _ _, HVL⟩
    case round =>
      obtain ⟨k, hk, rfl, hb, hxh⟩ := hrel
      have hx := hxh.out
      clear hxh HVL
      have HB := Lib.hid hb
      have d1 := (hb.block (w.heap.size + 1) (by omega)).trans Hd1.out
      have m1 : wr.cell? ⟨w.heap.size + 1, 1, none⟩ = some (.slice Ae me ke) := blk_cell d1 1 _ rfl
      have HBw := Lib.hid (HB1.out.trans (hb.mono HB1.out.size))
      have hzr : w.heap.size + 2 ≤ wr.heap.size := Nat.le_trans hz1 hb.size
      have m1a : ∀ o : Obj, (wr.alloc o).cell? ⟨w.heap.size + 1, 1, none⟩ = some (.slice Ae me ke) := fun o => by rw [((Below.refl wr.heap.size wr).alloc (Nat.le_refl _) o).cell (p := ⟨w.heap.size + 1, 1, none⟩) (by show w.heap.size + 1 < _; omega)]; exact m1
      clear d1
      by_cases hlt : k < nk
      · have hkI : (k : Int) < (nk : Int) := by omega
        have hkc : (k : Int) < (ck : Int) := by omega
        have hk0 : 0 ≤ (k : Int) := by omega
        obtain ⟨g2, o2, e6, z, hzk, _, cs2, hcs2, hV2⟩ := row_at (HRK.out.below kept_key (hb.mono (Nat.le_trans hB HB1.out.size))) (q := k) (by rw [← hnk.out]; exact hlt)
        have hdr : y.keys.drop k = z :: y.keys.drop (k + 1) := by
          rw [List.drop_eq_getElem_cons (by rw [← hnk.out]; exact hlt), (List.getElem?_eq_some_iff.1 hzk).2]
        rw [hdr, preL] at hx
        obtain ⟨rfl, -⟩ := hV2
        subst e6
        have p0 : wr.cell? ⟨g2, o2 + k * 3, none⟩ = some _ := hcs2.at0 _ rfl
        have p1 : wr.cell? ⟨g2, o2 + k * 3 + 1, none⟩ = some _ := hcs2.at 1 _ rfl
        have p2 : wr.cell? ⟨g2, o2 + k * 3 + 2, none⟩ = some _ := hcs2.at 2 _ rfl
        clear hdr hcs2 hzk hb
        by_cases hkd : z.kind = 2
        · by_cases hkm : k < me
          · have hkmI : (k : Int) < (me : Int) := by omega
            have hkmc : (k : Int) < (ke : Int) := by omega
            obtain ⟨g3, o3, e7, m, hmk2, _, cs3, hcs3, hV3⟩ := row_at (HR.out.below kept_match (HBw.out.mono hB)) (q := k) (by rw [← hn1.out]; exact hkm)
            obtain ⟨rfl, -⟩ := hV3
            subst e7
            have hval : r = m.pre := by rw [hx, if_pos ⟨hkd, by rw [← hn1.out]; exact hkm⟩, hmk2]; rfl
            have hg3 : g3 < wr.heap.size := by omega
            have p5 : ∀ o : Obj, (wr.alloc o).cell? ⟨g3, o3 + k * 8 + 5, none⟩ = some (.int .i64 m.pre) := fun o => by rw [((Below.refl wr.heap.size wr).alloc (Nat.le_refl _) o).cell (p := ⟨g3, o3 + k * 8 + 5, none⟩) hg3]; exact hcs3.at 5 _ rfl
            subst hval
            clear hx hmk2 hcs3
            go_wp2_with fail
            go_ret
            exact ⟨rfl, HBw.out.alloc (by omega) _⟩
          · have hkmI : ¬ (k : Int) < (me : Int) := by omega
            have hval : r = preL e.ms (y.keys.drop (k + 1)) (k + 1) := by rw [hx, if_neg (fun e => by rw [← hn1.out] at e; exact hkm e.2)]
            have HVAL := Lib.hid hval
            clear hval hx
            go_wp2_with fail
            go_roundw
            case rel => (go_light; exact ⟨k + 1, by omega, by simp, HB.out.alloc HB.out.size _, HVAL⟩)
            case measure => simp [intOf]; omega
        · have hval : r = preL e.ms (y.keys.drop (k + 1)) (k + 1) := by rw [hx, if_neg (fun e => hkd e.1)]
          have HVAL := Lib.hid hval
          clear hval hx
          go_wp2_with fail
          go_roundw
          case rel => (go_light; exact ⟨k + 1, by omega, by simp, HB.out.alloc HB.out.size _, HVAL⟩)
          case measure => simp [intOf]; omega
      · have hkI : ¬ (k : Int) < (nk : Int) := by omega
        have hval : r = 0 := by rw [hx, List.drop_of_length_le (by rw [← hnk.out]; omega)]; rfl
        subst hval
        clear hx hb
        go_wp2_with fail
        go_ret
        exact ⟨rfl, HBw.out⟩
end
end Go.Proofs.Ytjdecoiciecfpaa
namespace Go.Proofs.Ytjdecoiciecfpaa
section
open Go.RowKit
theorem tab_selfQ {xs : List TableD} (h : TablesOk xs) (r : Nat) (t : TableD) (ht : xs[r]? = some t) : tblAt xs t.id = some t := by
  obtain ⟨q, s1, s2, s3, s4, b2, b3, b4, f, _, _, _, _, _, _, rfl⟩ := h
  match r, ht with
  | 0, ht => simp at ht; subst ht; rfl
  | 1, ht => simp at ht; subst ht; rfl
  | 2, ht => simp at ht; subst ht; rfl
  | 3, ht => simp at ht; subst ht; rfl
  | (r + 4), ht => simp at ht
theorem tab_lenQ {xs : List TableD} (h : TablesOk xs) {r : Nat} {t : TableD} (ht : xs[r]? = some t) : t.keys.length ≤ 4 := (tables_keys h).2.2 t (List.mem_of_getElem? ht)
theorem mat_iffQ {fs : List FieldD} {ts : List TableD} {e : EntryD} {t : TableD} (h : tblAt ts e.table = some t) (hl : e.ms.length = t.keys.length) (h4 : t.keys.length ≤ 4) (p : Nat → Nat) :
    matE fs ts e p ↔ ∀ (i : Nat) (k : KeyD) (m : MatchD), t.keys[i]? = some k → e.ms[i]? = some m → covM m k.kind (fbits fs k.field) (p i) :=
  ⟨fun ⟨t', ht, _, _, h2⟩ => by rw [h] at ht; injection ht with ht; subst ht; exact h2, fun h2 => ⟨t, h, hl, h4, h2⟩⟩
def ptcQ (x : Nat → Nat) : List Value := [.int .u64 (hi (x 0)), .int .u64 (lo (x 0)), .int .u64 (hi (x 1)), .int .u64 (lo (x 1)), .int .u64 (hi (x 2)), .int .u64 (lo (x 2)), .int .u64 (hi (x 3)), .int .u64 (lo (x 3))]
theorem ptc_atQ (x : Nat → Nat) (q : Nat) (hq : q < 4) : (ptcQ x)[q * 2]? = some (.int .u64 (hi (x q))) ∧ (ptcQ x)[q * 2 + 1]? = some (.int .u64 (lo (x q))) := by
  match q, hq with
  | 0, _ => exact ⟨rfl, rfl⟩
  | 1, _ => exact ⟨rfl, rfl⟩
  | 2, _ => exact ⟨rfl, rfl⟩
  | 3, _ => exact ⟨rfl, rfl⟩
theorem ptc_setQ (x : Nat → Nat) (q v : Nat) (hq : q < 4) : ((ptcQ x).toArray.setIfInBounds (q * 2) (.int .u64 (hi v))).setIfInBounds (q * 2 + 1) (.int .u64 (lo v)) = (ptcQ fun i => if i = q then v else x i).toArray := by
  match q, hq with
  | 0, _ => rfl
  | 1, _ => rfl
  | 2, _ => rfl
  | 3, _ => rfl
theorem ptc_atAQ (x : Nat → Nat) (q : Nat) (hq : q < 4) : (ptcQ x).toArray[q * 2]? = some (.int .u64 (hi (x q))) ∧ (ptcQ x).toArray[q * 2 + 1]? = some (.int .u64 (lo (x q))) := by
  rw [List.getElem?_toArray, List.getElem?_toArray]
  exact ptc_atQ x q hq
theorem pt4_ofQ (x : Nat → Nat) (i : Nat) (hi : i < 4) : pt4 (x 0) (x 1) (x 2) (x 3) i = x i := by
  match i, hi with
  | 0, _ => rfl
  | 1, _ => rfl
  | 2, _ => rfl
  | 3, _ => rfl
theorem pt4_ltQ (x : Nat → Nat) (h : ∀ i, x i < 2 ^ 128) (i : Nat) : pt4 (x 0) (x 1) (x 2) (x 3) i < 2 ^ 128 := by
  match i with
  | 0 => exact h 0
  | 1 => exact h 1
  | 2 => exact h 2
  | 3 => exact h 3
  | (i + 4) => show (0 : Nat) < _; decide
theorem cs_pointHQ (w : World) (K D p0 : Nat) (l : List Nat) (hco : CoAt K D l p0 w) : Calls Try.prog 16 #[.pointer (some ⟨K, 0, none⟩)] w fun en w' => ∃ x : Nat → Nat, en = .returned (.agg #[.int .u64 (hi (x 0)), .int .u64 (lo (x 0)), .int .u64 (hi (x 1)), .int .u64 (lo (x 1)), .int .u64 (hi (x 2)), .int .u64 (lo (x 2)), .int .u64 (hi (x 3)), .int .u64 (lo (x 3))]) ∧ (∀ i, x i < 2 ^ 128) ∧ w.grownBy w' (some K) ∧ ∃ p, CoAt K D l p w' := by
  refine (cs_point w K D p0 l hco).mono ?_
  rintro en w' ⟨x, rfl, hx, hg, hc⟩
  refine ⟨x, ?_, fun i => Nat.lt_trans (hx i) (by decide), hg, hc⟩
  rw [hi_small (hx 0), hi_small (hx 1), hi_small (hx 2), hi_small (hx 3), lo_small (hx 0), lo_small (hx 1), lo_small (hx 2), lo_small (hx 3)]
theorem modI_natQ (x : Int) (n : Nat) (h1 : 1 ≤ n) : ∃ r : Nat, r < n ∧ modI x n = (r : Int) := by
  obtain ⟨a, b⟩ := modI_b x n h1
  exact ⟨(modI x n).toNat, by omega, by omega⟩
end
end Go.Proofs.Ytjdecoiciecfpaa
namespace Go.Proofs.Ytjdecoiciecfpaa
section
open Go.ChangeShapes Go.WideShapes Go.ChangeAt Go.RowKit Go.Joins Go.Deep
section
variable {H : Type} {enc : TypeId × Value → H} {w : World} {b0 : Nat} {v : Value} {d : DataW H} {p : List MemPlace}
set_option maxRecDepth 100000 in
theorem cellsC_u64 : Try.prog.cellsOf 23 = 1 := by kernel_rfl
set_option maxRecDepth 100000 in
theorem cellsC_pt : Try.prog.cellsOf 29 = 8 := by kernel_rfl
set_option maxRecDepth 100000 in
theorem cellsC_match : Try.prog.cellsOf 27 = 8 := by kernel_rfl
set_option maxRecDepth 100000 in
theorem openC_val {fuel : Nat} {c0 c1 : Value} {x : DataW H × List MemPlace} (h : DataW.trod enc Try.prog w 0 (fun _ => true) true fuel 25 [c0, c1] = some x) : ∃ n : Nat, n < 2 ^ 128 ∧ c0 = .int .u64 (hi n) ∧ c1 = .int .u64 (lo n) := by
  obtain ⟨zs, m, _, _, _, hzl, hg⟩ := DataW.trod_struct Try.underlying25 h
  match zs, hzl with
  | [z0, z1], _ =>
    have g0 : DataW.trod enc Try.prog w 0 (fun _ => true) true m 23 (List.take (Try.prog.cellsOf 23) (List.drop 0 [c0, c1])) = some z0 := hg 0 _ rfl
    have g1 : DataW.trod enc Try.prog w 0 (fun _ => true) true m 23 (List.take (Try.prog.cellsOf 23) (List.drop 1 [c0, c1])) = some z1 := hg 1 _ rfl
    rw [cellsC_u64] at g0 g1
    obtain ⟨vh, e3, _, w3⟩ := DataW.trod_int Try.underlying23 g0
    obtain ⟨vl, e4, _, w4⟩ := DataW.trod_int Try.underlying23 g1
    simp only [List.drop_zero, List.drop_succ_cons, List.take_succ_cons, List.take_zero, List.cons.injEq, and_true] at e3 e4
    subst e3 e4
    obtain ⟨q1, q2, q3⟩ := hi_of vh vl (u64_of_wf w3) (u64_of_wf w4)
    exact ⟨_, q3, by rw [q1], by rw [q2]⟩
theorem okWide_arrayC {P : Program} {r : Reach} {n : Nat} {e t : TypeId} {base : Nat} (ht : P.underlying t = some (.array n e)) (h : Value.okWide P w r base t v) : ∃ cs, v = .agg cs ∧ cs.size = P.cellsOf t := by
  simp only [Value.okWide, ht] at h
  obtain ⟨cs, h1, h2, _⟩ := h
  exact ⟨cs, h1, h2⟩
def ptF (a b c d : Nat) : Nat → Nat
  | 0 => a
  | 1 => b
  | 2 => c
  | _ => d
theorem ptF_lt {a b c d : Nat} (h0 : a < 2 ^ 128) (h1 : b < 2 ^ 128) (h2 : c < 2 ^ 128) (h3 : d < 2 ^ 128) (i : Nat) : ptF a b c d i < 2 ^ 128 := by
  unfold ptF
  split <;> assumption
set_option maxRecDepth 100000 in
theorem open_ptC (hv : Value.okWide Try.prog w .any b0 29 v) (h : DataW.Trod enc Try.prog w 0 (fun _ => true) true 29 v d p) : ∃ x : Nat → Nat, (∀ i, x i < 2 ^ 128) ∧ v = .agg #[.int .u64 (hi (x 0)), .int .u64 (lo (x 0)), .int .u64 (hi (x 1)), .int .u64 (lo (x 1)), .int .u64 (hi (x 2)), .int .u64 (lo (x 2)), .int .u64 (hi (x 3)), .int .u64 (lo (x 3))] := by
  obtain ⟨cs, rfl, hsz⟩ := okWide_arrayC Try.underlying29 hv
  obtain ⟨fuel, hf⟩ := h
  have hf2 : DataW.trod enc Try.prog w 0 (fun _ => true) true fuel 29 cs.toList = some (d, p) := by simpa [Value.cells] using hf
  obtain ⟨xs, m, _, _, hl, hxl, hg⟩ := DataW.trod_array Try.underlying29 hf2
  rw [cellsC_pt] at hl
  generalize hcs : cs.toList = l at hl hg
  match l, hl with
  | [c0, c1, c2, c3, c4, c5, c6, c7], _ =>
    match xs, hxl with
    | [y0, y1, y2, y3], _ =>
      have g0 := hg 0 (by decide)
      have g1 := hg 1 (by decide)
      have g2 := hg 2 (by decide)
      have g3 := hg 3 (by decide)
      rw [cells_val] at g0 g1 g2 g3
      obtain ⟨n0, b0, rfl, rfl⟩ := openC_val (c0 := c0) (c1 := c1) g0
      obtain ⟨n1, b1, rfl, rfl⟩ := openC_val (c0 := c2) (c1 := c3) g1
      obtain ⟨n2, b2, rfl, rfl⟩ := openC_val (c0 := c4) (c1 := c5) g2
      obtain ⟨n3, b3, rfl, rfl⟩ := openC_val (c0 := c6) (c1 := c7) g3
      exact ⟨ptF n0 n1 n2 n3, ptF_lt b0 b1 b2 b3, by rw [← Array.toArray_toList (xs := cs), hcs]; rfl⟩
set_option maxRecDepth 100000 in
theorem open_matchC (hv : Value.okWide Try.prog w .any b0 27 v) (h : DataW.Trod enc Try.prog w 0 (fun _ => true) true 27 v d p) : ∃ x : MatchD, MatchOk x ∧ v = .agg #[.bool x.pres, .int .u64 (hi x.val), .int .u64 (lo x.val), .int .u64 (hi x.mask), .int .u64 (lo x.mask), .int .i64 x.pre, .int .u64 (hi x.high), .int .u64 (lo x.high)] := by
  obtain ⟨cs, rfl, hsz⟩ := okWide_struct Try.underlying27 hv
  obtain ⟨fuel, hf⟩ := h
  have hf2 : DataW.trod enc Try.prog w 0 (fun _ => true) true fuel 27 cs.toList = some (d, p) := by simpa [Value.cells] using hf
  obtain ⟨xs, m, _, _, hl, hxl, hg⟩ := DataW.trod_struct Try.underlying27 hf2
  generalize hcs : cs.toList = l at hl hg
  have hl2 : l.length = 8 := hl
  match l, hl2, xs, hxl with
  | [c0, c1, c2, c3, c4, c5, c6, c7], _, [x0, x1, x2, x3, x4], _ =>
    have g0 : DataW.trod enc Try.prog w 0 (fun _ => true) true m 4 [c0] = some x0 := hg 0 _ rfl
    have g1 : DataW.trod enc Try.prog w 0 (fun _ => true) true m 25 [c1, c2] = some x1 := hg 1 _ rfl
    have g2 : DataW.trod enc Try.prog w 0 (fun _ => true) true m 25 [c3, c4] = some x2 := hg 2 _ rfl
    have g3 : DataW.trod enc Try.prog w 0 (fun _ => true) true m 3 [c5] = some x3 := hg 3 _ rfl
    have g4 : DataW.trod enc Try.prog w 0 (fun _ => true) true m 25 [c6, c7] = some x4 := hg 4 _ rfl
    obtain ⟨a0, e0, _⟩ := DataW.trod_bool Try.underlying4 g0
    obtain ⟨n1, b1, rfl, rfl⟩ := openC_val g1
    obtain ⟨n2, b2, rfl, rfl⟩ := openC_val g2
    obtain ⟨a3, e3, _, w3⟩ := DataW.trod_int Try.underlying3 g3
    obtain ⟨n4, b4, rfl, rfl⟩ := openC_val g4
    simp only [List.cons.injEq, and_true] at e0 e3
    subst e0 e3
    exact ⟨⟨a0, n1, n2, a3, n4⟩, ⟨b1, b2, b4, i64_of_wf w3⟩, by rw [← Array.toArray_toList (xs := cs), hcs]⟩
end
end
end Go.Proofs.Ytjdecoiciecfpaa
namespace Go.Proofs.Ytjdecoiciecfpaa
section
open Go.RowKit
theorem SchM.upQ {w : World} {B B2 : Nat} {s0 s1 s2 s3 s4 s5 s6 s7 : Value} {x : SchemaD} (h : SchM w B s0 s1 s2 s3 s4 s5 s6 s7 x) (hB : B ≤ B2) : SchM w B2 s0 s1 s2 s3 s4 s5 s6 s7 x := ⟨h.f.mono mono_field hB, h.h.mono mono_header hB, h.st.mono mono_state hB, h.a.mono mono_action hB, h.t.mono mono_table hB, h.sg.mono mono_stage hB, h.r.mono mono_role hB, h.rf.mono mono_ref hB, h.len⟩
theorem tab_ixQ {xs : List TableD} (h : TablesOk xs) (r : Nat) (t : TableD) (ht : xs[r]? = some t) : ixI t.id (xs.map (·.id)) 0 = ((r : Nat) : Int) := by
  obtain ⟨q, s1, s2, s3, s4, b2, b3, b4, f, _, _, _, _, _, _, rfl⟩ := h
  match r, ht with
  | 0, ht => simp at ht; subst ht; rfl
  | 1, ht => simp at ht; subst ht; rfl
  | 2, ht => simp at ht; subst ht; rfl
  | 3, ht => simp at ht; subst ht; rfl
  | (r + 4), ht => simp at ht
theorem keys_fields {x : SchemaD} (hg : GenOk x) {t : TableD} (ht : t ∈ x.tables) (q : Nat) (k : KeyD) (hk : t.keys[q]? = some k) : ∃ (j : Nat) (f : FieldD), ixI k.field (x.fields.map (·.id)) 0 = ((j : Nat) : Int) ∧ x.fields[j]? = some f ∧ fbits x.fields k.field = f.bits ∧ 0 ≤ f.bits ∧ f.bits ≤ 128 := by
  obtain ⟨b, h1, h2, h3, _⟩ := hg.keys t ht k (List.mem_of_getElem? hk)
  rcases fbits_is x.fields k.field with ⟨_, e⟩ | ⟨j, f, e1, e2, e3⟩
  · rw [h1] at e; omega
  · exact ⟨j, f, e1, e2, e3, by rw [← e3, h1]; omega, by rw [← e3, h1]; omega⟩
theorem fit_pre {kd : Int} {b : Nat} {m : MatchD} (h : MFit kd b m) (hb : b ≤ 32) : -1000 ≤ m.pre ∧ m.pre ≤ 1000 := by
  have h0 : (-1000 : Int) ≤ 0 ∧ (0 : Int) ≤ 1000 := by decide
  rcases h with ⟨_, rfl⟩ | ⟨_, v, _, rfl⟩ | ⟨_, v, n, _, h1, h3, rfl⟩ | ⟨_, v, k, _, _, rfl⟩ | ⟨_, v, h, _, _, _, rfl⟩
  · exact h0
  · exact h0
  · show -1000 ≤ (n : Int) ∧ (n : Int) ≤ 1000; omega
  · exact h0
  · exact h0
theorem ent_pre {x : SchemaD} {t : TableD} {e : EntryD} (h : EntFit x t e) : ∀ m ∈ e.ms, -1000 ≤ m.pre ∧ m.pre ≤ 1000 := fun m hm => by
  obtain ⟨j, hj, e1⟩ := List.mem_iff_getElem.1 hm
  have hk : t.keys[j]? = some (t.keys[j]'(by rw [← h.len]; exact hj)) := List.getElem?_eq_getElem _
  obtain ⟨b, _, hb, hf⟩ := h.fit j _ m hk (by rw [List.getElem?_eq_getElem hj, e1])
  exact fit_pre hf hb
set_option maxRecDepth 100000 in
set_option maxHeartbeats 12000000 in
theorem covers_any (w : World) (Ac : Option Addr) (Dc nc cc : Nat) (lc : List Nat) (hrc : ReadsL w Dc Ac lc) (hdc : lc ≠ [] → Dc < w.heap.size) (hlc : lc.length = nc) (hcc : nc ≤ cc) (hmc : cc ≤ maxLen) (hsc : Small lc)
    (Am : Option Addr) (Dm nm cm : Nat) (lm : List Nat) (hrm : ReadsL w Dm Am lm) (hdm : lm ≠ [] → Dm < w.heap.size) (hlm : lm.length = nm) (hcm : nm ≤ cm) (hmm : cm ≤ maxLen) (hsm : Small lm)
    (m : MatchD) (hmok : MatchOk m) (kind bt : Int) (v : Nat) (hv : v < 2 ^ 128) (p : Nat → Nat) (hp : ∀ i, p i < 2 ^ 128) (which : Int) : Calls Try.prog 3 #[.slice Ac nc cc, .slice Am nm cm, .agg #[.bool m.pres, .int .u64 (hi m.val), .int .u64 (lo m.val), .int .u64 (hi m.mask), .int .u64 (lo m.mask), .int .i64 m.pre, .int .u64 (hi m.high), .int .u64 (lo m.high)], .int .i64 kind, .int .i64 bt, .agg #[.int .u64 (hi v), .int .u64 (lo v)], .agg #[.int .u64 (hi (p 0)), .int .u64 (lo (p 0)), .int .u64 (hi (p 1)), .int .u64 (lo (p 1)), .int .u64 (hi (p 2)), .int .u64 (lo (p 2)), .int .u64 (hi (p 3)), .int .u64 (lo (p 3))], .int .i64 which] w (RetX (.bool true) w) := by
  obtain ⟨W0, hW0⟩ : ∃ W, W = (((w.alloc (.cells #[.bool m.pres, .int .u64 (hi m.val), .int .u64 (lo m.val), .int .u64 (hi m.mask), .int .u64 (lo m.mask), .int .i64 m.pre, .int .u64 (hi m.high), .int .u64 (lo m.high)] 27)).alloc (.cells #[.int .u64 (hi v), .int .u64 (lo v)] 25)).alloc (.cells #[.int .u64 (hi (p 0)), .int .u64 (lo (p 0)), .int .u64 (hi (p 1)), .int .u64 (lo (p 1)), .int .u64 (hi (p 2)), .int .u64 (lo (p 2)), .int .u64 (hi (p 3)), .int .u64 (lo (p 3))] 29)) := ⟨_, rfl⟩
  have hB0 : Below w.heap.size w W0 := by rw [hW0]; exact ((((Below.refl w.heap.size w).alloc (by simp <;> omega) _).alloc (by simp <;> omega) _).alloc (by simp <;> omega) _)
  have hz0 : W0.heap.size = w.heap.size + 3 := by rw [hW0]; simp
  have b0_0 : W0.heap[w.heap.size]? = some (.cells #[.bool m.pres, .int .u64 (hi m.val), .int .u64 (lo m.val), .int .u64 (hi m.mask), .int .u64 (lo m.mask), .int .i64 m.pre, .int .u64 (hi m.high), .int .u64 (lo m.high)] 27 (0, 0)) := by
    rw [hW0]
    exact ((((Below.refl (w.alloc (.cells #[.bool m.pres, .int .u64 (hi m.val), .int .u64 (lo m.val), .int .u64 (hi m.mask), .int .u64 (lo m.mask), .int .i64 m.pre, .int .u64 (hi m.high), .int .u64 (lo m.high)] 27)).heap.size (w.alloc (.cells #[.bool m.pres, .int .u64 (hi m.val), .int .u64 (lo m.val), .int .u64 (hi m.mask), .int .u64 (lo m.mask), .int .i64 m.pre, .int .u64 (hi m.high), .int .u64 (lo m.high)] 27))).alloc (by simp <;> omega) _).alloc (by simp <;> omega) _).block w.heap.size (by simp)).trans (heap_alloc_new _ _)
  have b0_1 : W0.heap[w.heap.size + 1]? = some (.cells #[.int .u64 (hi v), .int .u64 (lo v)] 25 (0, 0)) := by
    rw [hW0]
    rw [show w.heap.size + 1 = (w.alloc (.cells #[.bool m.pres, .int .u64 (hi m.val), .int .u64 (lo m.val), .int .u64 (hi m.mask), .int .u64 (lo m.mask), .int .i64 m.pre, .int .u64 (hi m.high), .int .u64 (lo m.high)] 27)).heap.size by simp]
    exact (((Below.refl ((w.alloc (.cells #[.bool m.pres, .int .u64 (hi m.val), .int .u64 (lo m.val), .int .u64 (hi m.mask), .int .u64 (lo m.mask), .int .i64 m.pre, .int .u64 (hi m.high), .int .u64 (lo m.high)] 27)).alloc (.cells #[.int .u64 (hi v), .int .u64 (lo v)] 25)).heap.size ((w.alloc (.cells #[.bool m.pres, .int .u64 (hi m.val), .int .u64 (lo m.val), .int .u64 (hi m.mask), .int .u64 (lo m.mask), .int .i64 m.pre, .int .u64 (hi m.high), .int .u64 (lo m.high)] 27)).alloc (.cells #[.int .u64 (hi v), .int .u64 (lo v)] 25))).alloc (by simp <;> omega) _).block (w.alloc (.cells #[.bool m.pres, .int .u64 (hi m.val), .int .u64 (lo m.val), .int .u64 (hi m.mask), .int .u64 (lo m.mask), .int .i64 m.pre, .int .u64 (hi m.high), .int .u64 (lo m.high)] 27)).heap.size (by simp)).trans (heap_alloc_new _ _)
  have b0_2 : W0.heap[w.heap.size + 2]? = some (.cells #[.int .u64 (hi (p 0)), .int .u64 (lo (p 0)), .int .u64 (hi (p 1)), .int .u64 (lo (p 1)), .int .u64 (hi (p 2)), .int .u64 (lo (p 2)), .int .u64 (hi (p 3)), .int .u64 (lo (p 3))] 29 (0, 0)) := by
    rw [hW0]
    rw [show w.heap.size + 2 = ((w.alloc (.cells #[.bool m.pres, .int .u64 (hi m.val), .int .u64 (lo m.val), .int .u64 (hi m.mask), .int .u64 (lo m.mask), .int .i64 m.pre, .int .u64 (hi m.high), .int .u64 (lo m.high)] 27)).alloc (.cells #[.int .u64 (hi v), .int .u64 (lo v)] 25)).heap.size by simp]
    exact heap_alloc_new _ _
  obtain ⟨md, hmd⟩ : ∃ md, md = modI m.pre 200 := ⟨_, rfl⟩
  have hmb := modI_b m.pre 200 (by decide)
  have KM : Hid (∀ W, Calls Try.prog 8 #[.int .i64 m.pre, .int .i64 200] W fun e w' => e = .returned (.int .i64 md) ∧ w' = W) := Lib.hid fun W => by rw [hmd]; exact cs_modE m.pre 200 (by decide) (by decide) W
  rw [← hmd] at hmb
  obtain ⟨k6, hk6⟩ : ∃ k6, k6 = modI kind 6 := ⟨_, rfl⟩
  have KM6 : Hid (∀ W, Calls Try.prog 8 #[.int .i64 kind, .int .i64 6] W fun e w' => e = .returned (.int .i64 k6) ∧ w' = W) := Lib.hid fun W => by rw [hk6]; exact cs_modE kind 6 (by decide) (by decide) W
  have hwr : IntKind.i64.wrap (md - 20) = md - 20 := IntWalk.i64_in _ (by omega)
  obtain ⟨m1, hm1⟩ : ∃ m1 : MatchD, m1 = ⟨m.pres, m.val, m.mask, md - 20, m.high⟩ := ⟨_, rfl⟩
  have hok1 : MatchOk m1 := by rw [hm1]; exact ⟨hmok.1, hmok.2.1, hmok.2.2.1, (show I64 (md - 20) by unfold I64; omega)⟩
  have hpre1 : -1000 ≤ m1.pre ∧ m1.pre ≤ 1000 := by rw [hm1]; show -1000 ≤ md - 20 ∧ md - 20 ≤ 1000; omega
  have b1 : (W0.setCell ⟨w.heap.size, 5, none⟩ (.int .i64 (md - 20))).heap[w.heap.size]? = some (.cells #[.bool m1.pres, .int .u64 (hi m1.val), .int .u64 (lo m1.val), .int .u64 (hi m1.mask), .int .u64 (lo m1.mask), .int .i64 m1.pre, .int .u64 (hi m1.high), .int .u64 (lo m1.high)] 27 (0, 0)) := by rw [hm1]; exact blk_set b0_0 5 _
  have b1_1 : (W0.setCell ⟨w.heap.size, 5, none⟩ (.int .i64 (md - 20))).heap[w.heap.size + 1]? = some (.cells #[.int .u64 (hi v), .int .u64 (lo v)] 25 (0, 0)) := ((grown_set W0 w.heap.size 5 (.int .i64 (md - 20))).block (w.heap.size + 1) (by omega) (fun e => by injection e with e; omega)).trans b0_1
  have b1_2 : (W0.setCell ⟨w.heap.size, 5, none⟩ (.int .i64 (md - 20))).heap[w.heap.size + 2]? = some (.cells #[.int .u64 (hi (p 0)), .int .u64 (lo (p 0)), .int .u64 (hi (p 1)), .int .u64 (lo (p 1)), .int .u64 (hi (p 2)), .int .u64 (lo (p 2)), .int .u64 (hi (p 3)), .int .u64 (lo (p 3))] 29 (0, 0)) := ((grown_set W0 w.heap.size 5 (.int .i64 (md - 20))).block (w.heap.size + 2) (by omega) (fun e => by injection e with e; omega)).trans b0_2
  have hB1 : Below w.heap.size w (W0.setCell ⟨w.heap.size, 5, none⟩ (.int .i64 (md - 20))) := hB0.setCell (p := ⟨w.heap.size, 5, none⟩) (Nat.le_refl _) _
  have m5 : W0.cell? ⟨w.heap.size, 5, none⟩ = some (.int .i64 m.pre) := blk_cell b0_0 5 _ rfl
  have f5 := blk_froz b0_0 5
  have hz1 : (W0.setCell ⟨w.heap.size, 5, none⟩ (.int .i64 (md - 20))).heap.size = w.heap.size + 3 := by simp [hz0]
  have HW0 := Lib.hid hW0
  have HV := Lib.hid hv
  have HP := Lib.hid hp
  have HB1 := Lib.hid hB1
  have BM1 := Lib.hid b1
  have BV1 := Lib.hid b1_1
  have BP1 := Lib.hid b1_2
  have HRC := Lib.hid hrc
  have HDC := Lib.hid hdc
  have HLC := Lib.hid hlc
  have HSC := Lib.hid hsc
  have HRM := Lib.hid hrm
  have HDM := Lib.hid hdm
  have HLM := Lib.hid hlm
  have HSM := Lib.hid hsm
  have HOK1 := Lib.hid hok1
  have HPR1 := Lib.hid hpre1
  have hrb : Hid (0 ≤ bits .and .i64 bt 127 ∧ bits .and .i64 bt 127 ≤ 128) := Lib.hid (by
    have := i64_mask bt 7 (by omega)
    rw [show (((2 ^ 7 - 1 : Nat) : Int)) = 127 from rfl, show (((2 ^ 7 : Nat) : Int)) = 128 from rfl] at this
    rw [this]
    omega)
  obtain ⟨b7, hb7⟩ : ∃ b7, b7 = bits .and .i64 bt 127 := ⟨_, rfl⟩
  rw [← hb7] at hrb
  have HB7 := Lib.hid hb7
  clear hb7 hW0 hv hp hB0 hB1 b0_0 b0_1 b0_2 b1 b1_1 b1_2 hrc hdc hlc hsc hrm hdm hlm hsm hok1 hpre1 hm1 hmd hk6 hmok hmb
  go_enter Try.func3, Try.ntmps3
  go_upto_region 1 with fail
  rw [← HW0.out]
  go_upto_region 2 with ((with_reducible refine (KM.out _).mono ?_); rintro e w1 ⟨rfl, rfl⟩)
  obtain ⟨W1, hW1⟩ : ∃ x, x = w1.setCell ⟨w.heap.size, 5, none⟩ (.int .i64 (md - 20)) := ⟨_, rfl⟩
  rw [← hW1] at HB1 BM1 BV1 BP1 hz1 ⊢
  clear hW1 m5 f5 HW0 KM hwr
  go_wp2_with ((with_reducible refine (KM6.out _).mono ?_); rintro e w2 ⟨rfl, rfl⟩)
  obtain ⟨W2, hW2⟩ : ∃ x, x = w2.alloc (.cells #[.int .i64 kind, .int .i64 k6] 3) := ⟨_, rfl⟩
  rw [← hW2]
  have BK2 := Lib.hid (heap_alloc_new w2 (.cells #[.int .i64 kind, .int .i64 k6] 3))
  have hb2 : Below w2.heap.size w2 (w2.alloc (.cells #[.int .i64 kind, .int .i64 k6] 3)) := (Below.refl _ _).alloc (Nat.le_refl _) _
  have hz2 : (w2.alloc (.cells #[.int .i64 kind, .int .i64 k6] 3)).heap.size = w.heap.size + 4 := by simp [hz1]
  rw [hz1] at BK2
  rw [← hW2] at BK2 hb2 hz2
  have HB2 := Lib.hid (HB1.out.trans (hb2.mono HB1.out.size))
  have BM2 := Lib.hid ((hb2.block w.heap.size (by omega)).trans BM1.out)
  have BV2 := Lib.hid ((hb2.block (w.heap.size + 1) (by omega)).trans BV1.out)
  have BP2 := Lib.hid ((hb2.block (w.heap.size + 2) (by omega)).trans BP1.out)
  clear hW2 hb2 BM1 BV1 BP1 HB1 KM6
  go_loopw [40] (fun i W => ∃ k : Nat, k ≤ 2 ∧ i = .int .i64 k ∧ Below W2.heap.size W2 W) (fun i _ => 2 - (intOf i).toNat)
  case atStart => exact ⟨0, by omega, rfl, Below.refl _ _⟩
  case round =>
    obtain ⟨k, hk, rfl, hbw⟩ := hrel
    obtain ⟨wr1, hwr1⟩ : ∃ x, x = wr := ⟨_, rfl⟩
    subst hwr1
    have hzr1 := hbw.size
    have HW := Lib.hid hbw
    clear hbw
    by_cases hlt : k < 2
    · have j1 : (k : Int) < 2 := by omega
      have j0 : 0 ≤ (k : Int) := by omega
      obtain ⟨kd, hkd⟩ : ∃ kd, wr1.cell? ⟨w.heap.size + 3, k, none⟩ = some (.int .i64 kd) := by
        have q := (HW.out.block (w.heap.size + 3) (by omega)).trans BK2.out
        match k, hlt with
        | 0, _ => exact ⟨_, blk_cell q 0 _ rfl⟩
        | 1, _ => exact ⟨_, blk_cell q 1 _ rfl⟩
      go_wp2_with fail
      rw [← HB7.out]
      obtain ⟨W3, hW3⟩ : ∃ x, x = wr1.alloc (.cells #[.int .i64 b7, .int .i64 128, .int .i64 32] 3) := ⟨_, rfl⟩
      rw [← hW3]
      have hb3 : Below wr1.heap.size wr1 W3 := by rw [hW3]; exact (Below.refl _ _).alloc (Nat.le_refl _) _
      have hz3 : W3.heap.size = wr1.heap.size + 1 := by rw [hW3]; simp
      have BB3 : Hid (W3.heap[wr1.heap.size]? = some (.cells #[.int .i64 b7, .int .i64 128, .int .i64 32] 3 (0, 0))) := Lib.hid (by rw [hW3]; exact heap_alloc_new _ _)
      have HW3 := Lib.hid (HW.out.trans (hb3.mono (by omega)))
      have H13 := Lib.hid hb3
      clear hW3 hb3 hkd
      go_loopw [48] (fun i W => ∃ k : Nat, k ≤ 3 ∧ i = .int .i64 k ∧ Below W3.heap.size W3 W) (fun i _ => 3 - (intOf i).toNat)
      case atStart => exact ⟨0, by omega, rfl, Below.refl _ _⟩
      case round =>
        obtain ⟨k2, hk2, rfl, hbw⟩ := hrel
        obtain ⟨wr2, hwr2⟩ : ∃ x, x = wr := ⟨_, rfl⟩
        subst hwr2
        have hzr2 := hbw.size
        have HWa := Lib.hid hbw
        have HWb := Lib.hid (HW3.out.trans (hbw.mono (by omega)))
        clear hbw
        by_cases hlt2 : k2 < 3
        · have j2 : (k2 : Int) < 3 := by omega
          have j3 : 0 ≤ (k2 : Int) := by omega
          obtain ⟨bb, hbb, hbq⟩ : ∃ bb, wr2.cell? ⟨wr1.heap.size, k2, none⟩ = some (.int .i64 bb) ∧ 0 ≤ bb ∧ bb ≤ 128 := by
            have q := (HWa.out.block wr1.heap.size (by omega)).trans BB3.out
            match k2, hlt2 with
            | 0, _ => exact ⟨_, blk_cell q 0 _ rfl, hrb.out⟩
            | 1, _ => exact ⟨_, blk_cell q 1 _ rfl, by decide, by decide⟩
            | 2, _ => exact ⟨_, blk_cell q 2 _ rfl, by decide, by decide⟩
          have HBQ := Lib.hid hbq
          obtain ⟨L, hL⟩ : ∃ L, L = lowB v 9 := ⟨_, rfl⟩
          have hL8 : L < 2 ^ 128 := by rw [hL]; unfold lowB; exact Nat.lt_of_le_of_lt (Nat.mod_le _ _) HV.out
          have KL : Hid (∀ W, Calls Try.prog 10 #[.agg #[.int .u64 (hi v), .int .u64 (lo v)], .int .i64 9] W (RetV L W)) := Lib.hid fun W => by rw [hL]; exact cs_low v 9 HV.out (by decide) W
          obtain ⟨X, hX⟩ : ∃ X, X = m1.val ^^^ L := ⟨_, rfl⟩
          have hX8 : X < 2 ^ 128 := by rw [hX]; exact Nat.xor_lt_two_pow HOK1.out.1 hL8
          have KX : Hid (∀ W, Calls Try.prog 9 #[.agg #[.int .u64 (hi m1.val), .int .u64 (lo m1.val)], .agg #[.int .u64 (hi L), .int .u64 (lo L)]] W (RetV X W)) := Lib.hid fun W => by rw [hX]; exact rxor_any m1.val L HOK1.out.1 hL8 W
          have HX8 := Lib.hid hX8
          have HKS : Hid (∀ w', Below wr2.heap.size wr2 w' → Below wr2.heap.size wr2 w' ∧ w'.cell? ⟨w.heap.size, 1, none⟩ = some (.int .u64 (hi m1.val)) ∧ w'.cell? ⟨w.heap.size, 2, none⟩ = some (.int .u64 (lo m1.val)) ∧ w'.cell? ⟨w.heap.size, 6, none⟩ = some (.int .u64 (hi m1.high)) ∧ w'.cell? ⟨w.heap.size, 7, none⟩ = some (.int .u64 (lo m1.high)) ∧ w'.cell? ⟨w.heap.size + 1, 0, none⟩ = some (.int .u64 (hi v)) ∧ w'.cell? ⟨w.heap.size + 1, 1, none⟩ = some (.int .u64 (lo v))) := Lib.hid fun w' hb => by
            have q0 := (hb.block w.heap.size (by omega)).trans ((HWb.out.block w.heap.size (by omega)).trans BM2.out)
            have q1 := (hb.block (w.heap.size + 1) (by omega)).trans ((HWb.out.block (w.heap.size + 1) (by omega)).trans BV2.out)
            exact ⟨hb, blk_cell q0 1 _ rfl, blk_cell q0 2 _ rfl, blk_cell q0 6 _ rfl, blk_cell q0 7 _ rfl, blk_cell q1 0 _ rfl, blk_cell q1 1 _ rfl⟩
          clear hL hL8 hX hX8 hbq
          go_wp2_with fail
          go_region_held3 (fun w' => Below wr2.heap.size wr2 w' ∧ w'.cell? ⟨w.heap.size, 1, none⟩ = some (.int .u64 (hi m1.val)) ∧ w'.cell? ⟨w.heap.size, 2, none⟩ = some (.int .u64 (lo m1.val)) ∧ w'.cell? ⟨w.heap.size, 6, none⟩ = some (.int .u64 (hi m1.high)) ∧ w'.cell? ⟨w.heap.size, 7, none⟩ = some (.int .u64 (lo m1.high)) ∧ w'.cell? ⟨w.heap.size + 1, 0, none⟩ = some (.int .u64 (hi v)) ∧ w'.cell? ⟨w.heap.size + 1, 1, none⟩ = some (.int .u64 (lo v)))
            (first
              | exact HKS.out _ (Below.drew (Below.refl _ _))
              | exact HKS.out _ (below_call (And.left (by assumption)) (by assumption))
              | exact HKS.out _ (below_alloc (And.left (by assumption)) _)
              | assumption)
            (first
              | (go_at_call 10; (with_reducible refine (KL.out _).mono ?_); rintro en w15 ⟨rfl, hv15⟩; have B15 := Lib.hid ((Below.refl wr2.heap.size wr2).drew.trans hv15))
              | (go_at_call 9; (with_reducible refine (KX.out _).mono ?_); rintro en w16 ⟨rfl, hv16⟩; have B16 := Lib.hid (B15.out.trans (hv16.mono B15.out.size))))
          obtain ⟨W4, hW4⟩ : ∃ x, x = w16.alloc (.cells #[.int .u64 (hi v), .int .u64 (lo v), .int .u64 (hi m1.val), .int .u64 (lo m1.val), .int .u64 (hi X), .int .u64 (lo X), .int .u64 (hi m1.high), .int .u64 (lo m1.high)] 25) := ⟨_, rfl⟩
          rw [← hW4]
          have hb4 : Below w16.heap.size w16 W4 := by rw [hW4]; exact (Below.refl _ _).alloc (Nat.le_refl _) _
          have hz4 : W4.heap.size = w16.heap.size + 1 := by rw [hW4]; simp
          have BX4 : Hid (W4.heap[w16.heap.size]? = some (.cells #[.int .u64 (hi v), .int .u64 (lo v), .int .u64 (hi m1.val), .int .u64 (lo m1.val), .int .u64 (hi X), .int .u64 (lo X), .int .u64 (hi m1.high), .int .u64 (lo m1.high)] 25 (0, 0))) := Lib.hid (by rw [hW4]; exact heap_alloc_new _ _)
          have hz16 := B16.out.size
          have H24 := Lib.hid (B16.out.trans (hb4.mono hz16))
          clear hW4 hb4 hv15 hv16 KL KX HKS hbb B15 B16
          go_wp2_with fail
          go_loopw [64] (fun i W => ∃ k : Nat, k ≤ 4 ∧ i = .int .i64 k ∧ Below W4.heap.size W4 W) (fun i _ => 4 - (intOf i).toNat)
          case atStart => exact ⟨0, by omega, rfl, Below.refl _ _⟩
          case round =>
            obtain ⟨k3, hk3, rfl, hbw⟩ := hrel
            obtain ⟨wr3, hwr3⟩ : ∃ x, x = wr := ⟨_, rfl⟩
            subst hwr3
            have hzr3 := hbw.size
            have HWc := Lib.hid hbw
            have H23 := Lib.hid (H24.out.trans (hbw.mono (by omega)))
            clear hbw
            by_cases hlt3 : k3 < 4
            · have j4 : (k3 : Int) < 4 := by omega
              have j5 : 0 ≤ (k3 : Int) := by omega
              obtain ⟨x, hx8, hx0, hx1⟩ : ∃ x, x < 2 ^ 128 ∧ wr3.cell? ⟨w16.heap.size, k3 * 2, none⟩ = some (.int .u64 (hi x)) ∧ wr3.cell? ⟨w16.heap.size, k3 * 2 + 1, none⟩ = some (.int .u64 (lo x)) := by
                have q := (HWc.out.block w16.heap.size (by omega)).trans BX4.out
                match k3, hlt3 with
                | 0, _ => exact ⟨v, HV.out, blk_cell q 0 _ rfl, blk_cell q 1 _ rfl⟩
                | 1, _ => exact ⟨m1.val, HOK1.out.1, blk_cell q 2 _ rfl, blk_cell q 3 _ rfl⟩
                | 2, _ => exact ⟨X, HX8.out, blk_cell q 4 _ rfl, blk_cell q 5 _ rfl⟩
                | 3, _ => exact ⟨m1.high, HOK1.out.2.2.1, blk_cell q 6 _ rfl, blk_cell q 7 _ rfl⟩
              obtain ⟨b, KC⟩ : ∃ b : Bool, (∀ W, Calls Try.prog 11 #[.agg #[.bool m1.pres, .int .u64 (hi m1.val), .int .u64 (lo m1.val), .int .u64 (hi m1.mask), .int .u64 (lo m1.mask), .int .i64 m1.pre, .int .u64 (hi m1.high), .int .u64 (lo m1.high)], .int .i64 kd, .int .i64 bb, .agg #[.int .u64 (hi x), .int .u64 (lo x)]] W (RetX (.bool b) W)) ∧ (∀ W, Calls Try.prog 12 #[.agg #[.bool m1.pres, .int .u64 (hi m1.val), .int .u64 (lo m1.val), .int .u64 (hi m1.mask), .int .u64 (lo m1.mask), .int .i64 m1.pre, .int .u64 (hi m1.high), .int .u64 (lo m1.high)], .int .i64 kd, .int .i64 bb, .agg #[.int .u64 (hi x), .int .u64 (lo x)]] W (RetX (.bool b) W)) := ⟨_, fun W => g_Covers m1 HOK1.out kd bb x hx8 W, fun W => g_rCovers m1 HOK1.out kd bb HBQ.out.1 HBQ.out.2 HPR1.out.1 HPR1.out.2 x hx8 W⟩
              have KC1 := Lib.hid KC.1
              have KC2 := Lib.hid KC.2
              clear KC hx8
              go_wp2_with fail
              obtain ⟨W5, hW5⟩ : ∃ y, y = wr3.alloc (.cells #[.int .u64 (hi x), .int .u64 (lo x)] 25) := ⟨_, rfl⟩
              rw [← hW5]
              have hb5 : Below wr3.heap.size wr3 W5 := by rw [hW5]; exact (Below.refl _ _).alloc (Nat.le_refl _) _
              have hz5 : W5.heap.size = wr3.heap.size + 1 := by rw [hW5]; simp
              have BX5 : Hid (W5.heap[wr3.heap.size]? = some (.cells #[.int .u64 (hi x), .int .u64 (lo x)] 25 (0, 0))) := Lib.hid (by rw [hW5]; exact heap_alloc_new _ _)
              have BM5 := Lib.hid ((hb5.block w.heap.size (by omega)).trans ((H23.out.block w.heap.size (by omega)).trans ((HWb.out.block w.heap.size (by omega)).trans BM2.out)))
              have HKS : Hid (∀ w', Below W5.heap.size W5 w' → Below W5.heap.size W5 w' ∧ w'.cell? ⟨w.heap.size, 0, none⟩ = some (.bool m1.pres) ∧ w'.cell? ⟨w.heap.size, 1, none⟩ = some (.int .u64 (hi m1.val)) ∧ w'.cell? ⟨w.heap.size, 2, none⟩ = some (.int .u64 (lo m1.val)) ∧ w'.cell? ⟨w.heap.size, 3, none⟩ = some (.int .u64 (hi m1.mask)) ∧ w'.cell? ⟨w.heap.size, 4, none⟩ = some (.int .u64 (lo m1.mask)) ∧ w'.cell? ⟨w.heap.size, 5, none⟩ = some (.int .i64 m1.pre) ∧ w'.cell? ⟨w.heap.size, 6, none⟩ = some (.int .u64 (hi m1.high)) ∧ w'.cell? ⟨w.heap.size, 7, none⟩ = some (.int .u64 (lo m1.high)) ∧ w'.cell? ⟨wr3.heap.size, 0, none⟩ = some (.int .u64 (hi x)) ∧ w'.cell? ⟨wr3.heap.size, 1, none⟩ = some (.int .u64 (lo x))) := Lib.hid fun w' hb => by
                have q0 := (hb.block w.heap.size (by omega)).trans BM5.out
                have q1 := (hb.block wr3.heap.size (by omega)).trans BX5.out
                exact ⟨hb, blk_cell q0 0 _ rfl, blk_cell q0 1 _ rfl, blk_cell q0 2 _ rfl, blk_cell q0 3 _ rfl, blk_cell q0 4 _ rfl, blk_cell q0 5 _ rfl, blk_cell q0 6 _ rfl, blk_cell q0 7 _ rfl, blk_cell q1 0 _ rfl, blk_cell q1 1 _ rfl⟩
              have HB5 := Lib.hid hb5
              clear hW5 hb5 hx0 hx1
              go_region_held3 (fun w' => Below W5.heap.size W5 w' ∧ w'.cell? ⟨w.heap.size, 0, none⟩ = some (.bool m1.pres) ∧ w'.cell? ⟨w.heap.size, 1, none⟩ = some (.int .u64 (hi m1.val)) ∧ w'.cell? ⟨w.heap.size, 2, none⟩ = some (.int .u64 (lo m1.val)) ∧ w'.cell? ⟨w.heap.size, 3, none⟩ = some (.int .u64 (hi m1.mask)) ∧ w'.cell? ⟨w.heap.size, 4, none⟩ = some (.int .u64 (lo m1.mask)) ∧ w'.cell? ⟨w.heap.size, 5, none⟩ = some (.int .i64 m1.pre) ∧ w'.cell? ⟨w.heap.size, 6, none⟩ = some (.int .u64 (hi m1.high)) ∧ w'.cell? ⟨w.heap.size, 7, none⟩ = some (.int .u64 (lo m1.high)) ∧ w'.cell? ⟨wr3.heap.size, 0, none⟩ = some (.int .u64 (hi x)) ∧ w'.cell? ⟨wr3.heap.size, 1, none⟩ = some (.int .u64 (lo x)))
                (first
                  | exact HKS.out _ (Below.drew (Below.refl _ _))
                  | exact HKS.out _ (below_call (And.left (by assumption)) (by assumption))
                  | assumption)
                (first
                  | (go_at_call 11; (with_reducible refine (KC1.out _).mono ?_); rintro en w17 ⟨rfl, hv17⟩; have B17 := Lib.hid ((Below.refl W5.heap.size W5).drew.trans hv17))
                  | (go_at_call 12; (with_reducible refine (KC2.out _).mono ?_); rintro en w18 ⟨rfl, hv18⟩; have B18 := Lib.hid (B17.out.trans (hv18.mono B17.out.size))))
              go_wp2_with fail
              go_roundw
              case rel => exact ⟨k3 + 1, by omega, by simp, HWc.out.trans ((HB5.out.trans (B18.out.mono (by omega))).mono (by omega))⟩
              case measure => simp [intOf]; omega
            · obtain rfl : k3 = 4 := by omega
              go_wp2_with fail
              go_roundw
              case rel => exact ⟨k2 + 1, by omega, by simp, HWa.out.trans (H23.out.mono (by omega))⟩
              case measure => simp [intOf]; omega
        · obtain rfl : k2 = 3 := by omega
          go_wp2_with fail
          go_roundw
          case rel => exact ⟨k + 1, by omega, by simp, HW.out.trans (((Below.refl wr1.heap.size wr1).trans (H13.out.trans (HWa.out.mono (by omega)))).mono (by omega))⟩
          case measure => simp [intOf]; omega
    · obtain rfl : k = 2 := by omega
      have hz40 : w.heap.size + 4 ≤ wr1.heap.size := by omega
      have HB0 := Lib.hid (HB2.out.trans (HW.out.mono (by omega)))
      have BPa := Lib.hid ((HW.out.block (w.heap.size + 2) (by omega)).trans BP2.out)
      clear HB2 HW BP2 BM2 BV2 BK2 hzr1 hz2 hz1 hz0 hk hlt hrb HB7 HOK1 HPR1 HV
      have KN0 := cs_newL 120 (by decide) Ac Dc nc cc lc wr1 (HRC.out.kept' (grown_of_below HB0.out none) (fun _ => by simp)) (fun h => Nat.lt_of_lt_of_le (HDC.out h) HB0.out.size) HLC.out hcc hmc HSC.out
      rw [show ((120 : Nat) : Int) = 120 from rfl] at KN0
      have KN := Lib.hid KN0
      clear KN0
      go_wp2_with fail
      with_reducible refine KN.out.mono ?_
      rintro en w2 ⟨rfl, hb2, hl2, hc2⟩
      have HBy2 := Lib.hid (HB0.out.trans (hb2.mono HB0.out.size))
      have HC2 := Lib.hid hc2
      have hzy2 := hb2.size
      have BPb := Lib.hid ((hb2.block (w.heap.size + 2) (by omega)).trans BPa.out)
      clear hb2 hc2 KN
      go_wp2_with fail
      with_reducible refine (schema_any HC2.out).mono ?_
      rintro en w3 ⟨v0, v1, v2, v3, v4, v5, v6, v7, x, rfl, ⟨hok, -⟩, hel, hg3, p3, -⟩
      have hM := schM_of hok (hel w3 w3.heap.size (.refl (Nat.le_refl _)) (Nat.le_refl _))
      obtain ⟨A0, n0, c0, rfl, _⟩ := hM.f.parts
      obtain ⟨A1, n1, c1, rfl, _⟩ := hM.h.parts
      obtain ⟨A2, n2, c2, rfl, _⟩ := hM.st.parts
      obtain ⟨A3, n3, c3, rfl, _⟩ := hM.a.parts
      obtain ⟨A4, n4, c4, rfl, _⟩ := hM.t.parts
      obtain ⟨A5, n5, c5, rfl, _⟩ := hM.sg.parts
      obtain ⟨A6, n6, c6, rfl, _⟩ := hM.r.parts
      obtain ⟨A7, n7, c7, rfl, _⟩ := hM.rf.parts
      have hz3 := hg3.size
      have BPc := Lib.hid ((hg3.block (w.heap.size + 2) (by omega) (fun e => by injection e with e; omega)).trans BPb.out)
      have HB3 := Lib.hid (HBy2.out.trans (below_grownK hg3 (B := w.heap.size) (by omega) (by omega)))
      have KN20 := cs_newL 40 (by decide) Am Dm nm cm lm w3 ((HRM.out.kept' (grown_of_below HBy2.out none) (fun _ => by simp)).kept' hg3 (fun h e => by have := HDM.out h; injection e with e; omega)) (fun h => Nat.lt_of_lt_of_le (HDM.out h) HB3.out.size) HLM.out hcm hmm HSM.out
      rw [show ((40 : Nat) : Int) = 40 from rfl] at KN20
      have KN2 := Lib.hid KN20
      clear KN20
      have HOK := Lib.hid hok
      have HM3 := Lib.hid hM
      clear hM hok hel hg3 HC2
      go_wp2_with fail
      with_reducible refine KN2.out.mono ?_
      rintro en w4 ⟨rfl, hb4, hl4, hc4⟩
      have hz4 := hb4.size
      have BPd := Lib.hid ((hb4.block (w.heap.size + 2) (by omega)).trans BPc.out)
      obtain ⟨W5, hW5⟩ : ∃ W, W = w4.alloc (.cells #[.slice A0 n0 c0, .slice A1 n1 c1, .slice A2 n2 c2, .slice A3 n3 c3, .slice A4 n4 c4, .slice A5 n5 c5, .slice A6 n6 c6, .slice A7 n7 c7, .int .i64 x.maxBatch, .int .i64 x.budget] 45) := ⟨_, rfl⟩
      have hb5 : Below w4.heap.size w4 W5 := by rw [hW5]; exact (Below.refl _ _).alloc (Nat.le_refl _) _
      have hz5 : W5.heap.size = w4.heap.size + 1 := by rw [hW5]; simp
      have BS5 : Hid (W5.heap[w4.heap.size]? = some (.cells #[.slice A0 n0 c0, .slice A1 n1 c1, .slice A2 n2 c2, .slice A3 n3 c3, .slice A4 n4 c4, .slice A5 n5 c5, .slice A6 n6 c6, .slice A7 n7 c7, .int .i64 x.maxBatch, .int .i64 x.budget] 45 (0, 0))) := Lib.hid (by rw [hW5]; exact heap_alloc_new _ _)
      have BP5 := Lib.hid ((hb5.block (w.heap.size + 2) (by omega)).trans BPd.out)
      have hb45 := hb4.trans (hb5.mono hz4)
      have HB5 := Lib.hid (HB3.out.trans (hb45.mono HB3.out.size))
      have HM5 := Lib.hid (HM3.out.below hb45)
      have HC5 := Lib.hid (hc4.belowC hb5)
      have HW5 := Lib.hid hW5
      have hzw : w.heap.size + 4 ≤ w3.heap.size := by omega
      clear hb4 hb5 hb45 hc4 hW5 KN2 HM3 HRM HDM HLM HSM HDC HRC HLC HSC HB0 HBy2 HB3 BPa BPb BPc BPd hl2 hzy2 hz3 hz40
      obtain ⟨r, hr4, hwh⟩ := modI_natQ which 4 (by decide)
      have hxl := (tables_keys HOK.out.tables).2.1
      obtain ⟨t, ht⟩ : ∃ t, x.tables[r]? = some t := ⟨_, List.getElem?_eq_getElem (by omega)⟩
      have HT := Lib.hid ht
      have KE := Lib.hid (cs_entry W5 w3.heap.size w3.heap.size Dm 0 (lm.take 40) HM5.out (gen_ok HOK.out) (by omega) (Nat.le_refl _) (.int .i64 x.maxBatch) (.int .i64 x.budget) HC5.out which r (by rw [hxl]; exact hwh) t ht)
      have HXL := Lib.hid hxl
      clear ht hwh hxl
      go_upto_region 17 with fail
      rw [← HW5.out]
      have s0 : W5.cell? ⟨w4.heap.size, 0, none⟩ = some (.slice A0 n0 c0) := blk_cell BS5.out 0 _ rfl
      have s1 : W5.cell? ⟨w4.heap.size, 1, none⟩ = some (.slice A1 n1 c1) := blk_cell BS5.out 1 _ rfl
      have s2 : W5.cell? ⟨w4.heap.size, 2, none⟩ = some (.slice A2 n2 c2) := blk_cell BS5.out 2 _ rfl
      have s3 : W5.cell? ⟨w4.heap.size, 3, none⟩ = some (.slice A3 n3 c3) := blk_cell BS5.out 3 _ rfl
      have s4 : W5.cell? ⟨w4.heap.size, 4, none⟩ = some (.slice A4 n4 c4) := blk_cell BS5.out 4 _ rfl
      have s5 : W5.cell? ⟨w4.heap.size, 5, none⟩ = some (.slice A5 n5 c5) := blk_cell BS5.out 5 _ rfl
      have s6 : W5.cell? ⟨w4.heap.size, 6, none⟩ = some (.slice A6 n6 c6) := blk_cell BS5.out 6 _ rfl
      have s7 : W5.cell? ⟨w4.heap.size, 7, none⟩ = some (.slice A7 n7 c7) := blk_cell BS5.out 7 _ rfl
      have s8 : W5.cell? ⟨w4.heap.size, 8, none⟩ = some (.int .i64 x.maxBatch) := blk_cell BS5.out 8 _ rfl
      have s9 : W5.cell? ⟨w4.heap.size, 9, none⟩ = some (.int .i64 x.budget) := blk_cell BS5.out 9 _ rfl
      go_wp2_with fail
      with_reducible refine KE.out.mono ?_
      rintro en w6 ⟨ve, ue, e, rfl, hfit, hrme, hrue, hg6, p6, hc6⟩
      obtain ⟨Ae, me, ce, rfl, hme, hce, hmxe⟩ := (hrme w6 w6.heap.size (.refl (Nat.le_refl _)) (Nat.le_refl _)).parts
      obtain ⟨Au, nu, cu, rfl, _⟩ := (hrue w6 w6.heap.size (.refl (Nat.le_refl _)) (Nat.le_refl _)).parts
      have hz6 := hg6.size
      obtain ⟨W7, hW7⟩ : ∃ W, W = w6.alloc (.cells #[.int .i64 e.table, .slice Ae me ce, .int .i64 e.prio, .int .i64 e.action, .slice Au nu cu] 51) := ⟨_, rfl⟩
      have hb7 : Below w6.heap.size w6 W7 := by rw [hW7]; exact (Below.refl _ _).alloc (Nat.le_refl _) _
      have hz7 : W7.heap.size = w6.heap.size + 1 := by rw [hW7]; simp
      have BE7 : W7.heap[w6.heap.size]? = some (.cells #[.int .i64 e.table, .slice Ae me ce, .int .i64 e.prio, .int .i64 e.action, .slice Au nu cu] 51 (0, 0)) := by rw [hW7]; exact heap_alloc_new _ _
      have HW7 := Lib.hid hW7
      have HFIT := Lib.hid hfit
      have BP7 := Lib.hid ((hb7.block (w.heap.size + 2) (by omega)).trans ((hg6.block (w.heap.size + 2) (by omega) (fun e => by injection e with e; omega)).trans BP5.out))
      have HC7 := Lib.hid (hc6.belowC hb7)
      clear hW7 hfit hc6 KE HC5 s0 s1 s2 s3 s4 s5 s6 s7 s8 s9
      go_upto_region 18 with fail
      rw [← HW7.out]
      have HPX : Hid (∀ w' : World, w'.heap[w.heap.size + 2]? = some (.cells #[.int .u64 (hi (p 0)), .int .u64 (lo (p 0)), .int .u64 (hi (p 1)), .int .u64 (lo (p 1)), .int .u64 (hi (p 2)), .int .u64 (lo (p 2)), .int .u64 (hi (p 3)), .int .u64 (lo (p 3))] 29 (0, 0)) → w'.cell? ⟨w.heap.size + 1 + 1, 0, none⟩ = some (.int .u64 (hi (p 0))) ∧ w'.cell? ⟨w.heap.size + 1 + 1, 1, none⟩ = some (.int .u64 (lo (p 0))) ∧ w'.cell? ⟨w.heap.size + 1 + 1, 2, none⟩ = some (.int .u64 (hi (p 1))) ∧ w'.cell? ⟨w.heap.size + 1 + 1, 3, none⟩ = some (.int .u64 (lo (p 1))) ∧ w'.cell? ⟨w.heap.size + 1 + 1, 4, none⟩ = some (.int .u64 (hi (p 2))) ∧ w'.cell? ⟨w.heap.size + 1 + 1, 5, none⟩ = some (.int .u64 (lo (p 2))) ∧ w'.cell? ⟨w.heap.size + 1 + 1, 6, none⟩ = some (.int .u64 (hi (p 3))) ∧ w'.cell? ⟨w.heap.size + 1 + 1, 7, none⟩ = some (.int .u64 (lo (p 3)))) := Lib.hid fun w' q => ⟨blk_cell q 0 _ rfl, blk_cell q 1 _ rfl, blk_cell q 2 _ rfl, blk_cell q 3 _ rfl, blk_cell q 4 _ rfl, blk_cell q 5 _ rfl, blk_cell q 6 _ rfl, blk_cell q 7 _ rfl⟩
      have hd7 : Below w6.heap.size w6 W7.drew := hb7.drew
      have hne2 : w.heap.size + 2 ≠ w3.heap.size := by omega
      have hlt7 : w.heap.size + 2 < W7.drew.heap.size := by show _ < W7.heap.size; omega
      go_region_held3 (fun w' => w'.cell? ⟨w.heap.size + 1 + 1, 0, none⟩ = some (.int .u64 (hi (p 0))) ∧ w'.cell? ⟨w.heap.size + 1 + 1, 1, none⟩ = some (.int .u64 (lo (p 0))) ∧ w'.cell? ⟨w.heap.size + 1 + 1, 2, none⟩ = some (.int .u64 (hi (p 1))) ∧ w'.cell? ⟨w.heap.size + 1 + 1, 3, none⟩ = some (.int .u64 (lo (p 1))) ∧ w'.cell? ⟨w.heap.size + 1 + 1, 4, none⟩ = some (.int .u64 (hi (p 2))) ∧ w'.cell? ⟨w.heap.size + 1 + 1, 5, none⟩ = some (.int .u64 (lo (p 2))) ∧ w'.cell? ⟨w.heap.size + 1 + 1, 6, none⟩ = some (.int .u64 (hi (p 3))) ∧ w'.cell? ⟨w.heap.size + 1 + 1, 7, none⟩ = some (.int .u64 (lo (p 3))))
        (first
          | exact HPX.out _ ((heap_alloc_old _ _ (Array.getElem?_eq_some_iff.1 Pz2.out).1).trans Pz2.out)
          | exact HPX.out _ Pz2.out
          | exact HPX.out _ Pz1.out
          | exact HPX.out _ BP7.out)
        (first
          | (go_at_call 16; (with_reducible refine (cs_pointHQ _ w3.heap.size Dm p7 (lm.take 40) Hc1.out).mono ?_); rintro en z2 ⟨y2, rfl, hy2, hg2, p8, -⟩; have Y2 := Lib.hid hy2; have G2 := Lib.hid hg2; have Pz2 := Lib.hid ((hg2.block (w.heap.size + 2) (Array.getElem?_eq_some_iff.1 Pz1.out).1 (fun e => hne2 (by injection e))).trans Pz1.out); clear hy2 hg2)
          | (go_at_call 16; (with_reducible refine (cs_pointHQ _ w3.heap.size Dm p6 (lm.take 40) (HC7.out.belowC (Below.drew (Below.refl _ _)))).mono ?_); rintro en z1 ⟨y1, rfl, hy1, hg1, p7, hc7⟩; have Y1 := Lib.hid hy1; have G1 := Lib.hid hg1; have Hc1 := Lib.hid hc7; have Pz1 := Lib.hid ((hg1.block (w.heap.size + 2) hlt7 (fun e => hne2 (by injection e))).trans BP7.out); clear hy1 hg1 hc7))
      obtain ⟨W9, hW9⟩ : ∃ W, W = z2.alloc (.cells #[.int .u64 (hi (p 0)), .int .u64 (lo (p 0)), .int .u64 (hi (p 1)), .int .u64 (lo (p 1)), .int .u64 (hi (p 2)), .int .u64 (lo (p 2)), .int .u64 (hi (p 3)), .int .u64 (lo (p 3)), .int .u64 (hi (y1 0)), .int .u64 (lo (y1 0)), .int .u64 (hi (y1 1)), .int .u64 (lo (y1 1)), .int .u64 (hi (y1 2)), .int .u64 (lo (y1 2)), .int .u64 (hi (y1 3)), .int .u64 (lo (y1 3)), .int .u64 (hi (y2 0)), .int .u64 (lo (y2 0)), .int .u64 (hi (y2 1)), .int .u64 (lo (y2 1)), .int .u64 (hi (y2 2)), .int .u64 (lo (y2 2)), .int .u64 (hi (y2 3)), .int .u64 (lo (y2 3))] 29) := ⟨_, rfl⟩
      rw [← hW9]
      have hb9 : Below z2.heap.size z2 W9 := by rw [hW9]; exact (Below.refl _ _).alloc (Nat.le_refl _) _
      have hz9 : W9.heap.size = z2.heap.size + 1 := by rw [hW9]; simp
      have BR9 : Hid (W9.heap[z2.heap.size]? = some (.cells #[.int .u64 (hi (p 0)), .int .u64 (lo (p 0)), .int .u64 (hi (p 1)), .int .u64 (lo (p 1)), .int .u64 (hi (p 2)), .int .u64 (lo (p 2)), .int .u64 (hi (p 3)), .int .u64 (lo (p 3)), .int .u64 (hi (y1 0)), .int .u64 (lo (y1 0)), .int .u64 (hi (y1 1)), .int .u64 (lo (y1 1)), .int .u64 (hi (y1 2)), .int .u64 (lo (y1 2)), .int .u64 (hi (y1 3)), .int .u64 (lo (y1 3)), .int .u64 (hi (y2 0)), .int .u64 (lo (y2 0)), .int .u64 (hi (y2 1)), .int .u64 (lo (y2 1)), .int .u64 (hi (y2 2)), .int .u64 (lo (y2 2)), .int .u64 (hi (y2 3)), .int .u64 (lo (y2 3))] 29 (0, 0))) := Lib.hid (by rw [hW9]; exact heap_alloc_new _ _)
      have hzz1 : W7.heap.size ≤ z1.heap.size := G1.out.size
      have hzz2 : z1.heap.size ≤ z2.heap.size := G2.out.size
      have hzd : W7.drew.heap.size = W7.heap.size := rfl
      have h62 : SameB W5.heap.size w6.heap.size w6 z2 := (SameB.of_grown (grown_of_below hd7 none) (Nat.le_refl _) (fun k e => by cases e)).trans ((SameB.of_grown G1.out (by omega) (fun k e => by injection e with e; omega)).trans (.of_grown G2.out (by omega) (fun k e => by injection e with e; omega)))
      have hB52 : Below w3.heap.size W5 z2 := (below_grownK hg6 (Nat.le_refl _) (by omega)).trans ((hd7.mono (by omega)).trans ((below_grownK G1.out (Nat.le_refl _) (by omega)).trans (below_grownK G2.out (Nat.le_refl _) (by omega))))
      have HM9 := Lib.hid ((HM5.out.below (hB52.trans (hb9.mono (by omega)))).upQ (show w3.heap.size ≤ z2.heap.size by omega))
      have HRM9 : Hid (RowV 8 MatchV z2.heap.size W9 (.slice Ae me ce) e.ms) := Lib.hid ((hrme z2 z2.heap.size h62 (by omega)).below kept_match hb9)
      have BS9 := Lib.hid ((hb9.block w4.heap.size (by omega)).trans ((G2.out.block w4.heap.size (by omega) (fun e => by injection e with e; omega)).trans ((G1.out.block w4.heap.size (by omega) (fun e => by injection e with e; omega)).trans ((hd7.block w4.heap.size (by omega)).trans ((hg6.block w4.heap.size (by omega) (fun e => by injection e with e; omega)).trans BS5.out)))))
      have BE9 := Lib.hid ((hb9.block w6.heap.size (by omega)).trans ((G2.out.block w6.heap.size (by omega) (fun e => by injection e with e; omega)).trans ((G1.out.block w6.heap.size (by omega) (fun e => by injection e with e; omega)).trans BE7)))
      have HB9 := Lib.hid (HB5.out.trans (((below_grownK hg6 (B := w.heap.size) (by omega) (by omega)).trans ((hd7.mono (by omega)).trans ((below_grownK G1.out (by omega) (by omega)).trans (below_grownK G2.out (by omega) (by omega))))).trans (hb9.mono (by omega))))
      clear hW9 hrme hrue hg6 h62 hB52 hb7 hd7 hb9 BE7 BP7 HM5 HB5 BS5 BP5 Pz1 Pz2 G1 G2 Hc1 HC7 HPX hne2 hlt7 HW7 HW5
      go_wp2_with fail
      have htb : tblAt x.tables e.table = some t := by rw [HFIT.out.tab]; exact tab_selfQ HOK.out.tables r t HT.out
      have hlen : e.ms.length = t.keys.length := HFIT.out.len
      have ht4 : t.keys.length ≤ 4 := tab_lenQ HOK.out.tables HT.out
      have hme4 : me ≤ 4 := by have := hme.out; omega
      have hix : ixI e.table (x.tables.map (·.id)) 0 = ((r : Nat) : Int) := by rw [HFIT.out.tab]; exact tab_ixQ HOK.out.tables r t HT.out
      have HKM : Hid (∀ Q : Nat → Nat, (∀ i, Q i < 2 ^ 128) → ∃ b : Bool, (∀ W, Below W9.heap.size W9 W → Calls Try.prog 17 #[.agg #[.slice A0 n0 c0, .slice A1 n1 c1, .slice A2 n2 c2, .slice A3 n3 c3, .slice A4 n4 c4, .slice A5 n5 c5, .slice A6 n6 c6, .slice A7 n7 c7, .int .i64 x.maxBatch, .int .i64 x.budget], .agg #[.int .i64 e.table, .slice Ae me ce, .int .i64 e.prio, .int .i64 e.action, .slice Au nu cu], .agg #[.int .u64 (hi (Q 0)), .int .u64 (lo (Q 0)), .int .u64 (hi (Q 1)), .int .u64 (lo (Q 1)), .int .u64 (hi (Q 2)), .int .u64 (lo (Q 2)), .int .u64 (hi (Q 3)), .int .u64 (lo (Q 3))]] W (RetX (.bool b) W)) ∧ (∀ W, Below W9.heap.size W9 W → Calls Try.prog 18 #[.agg #[.slice A0 n0 c0, .slice A1 n1 c1, .slice A2 n2 c2, .slice A3 n3 c3, .slice A4 n4 c4, .slice A5 n5 c5, .slice A6 n6 c6, .slice A7 n7 c7, .int .i64 x.maxBatch, .int .i64 x.budget], .agg #[.int .i64 e.table, .slice Ae me ce, .int .i64 e.prio, .int .i64 e.action, .slice Au nu cu], .agg #[.int .u64 (hi (Q 0)), .int .u64 (lo (Q 0)), .int .u64 (hi (Q 1)), .int .u64 (lo (Q 1)), .int .u64 (hi (Q 2)), .int .u64 (lo (Q 2)), .int .u64 (hi (Q 3)), .int .u64 (lo (Q 3))]] W (RetX (.bool b) W))) := Lib.hid fun Q hQ => by
        obtain ⟨b, hb⟩ := some_bool (matE x.fields x.tables e (pt4 (Q 0) (Q 1) (Q 2) (Q 3)))
        refine ⟨b, fun W hW => ?_, fun W hW => ?_⟩
        · have hbW := hW.mono (show z2.heap.size ≤ W9.heap.size by omega)
          have hM := HM9.out.below hbW
          exact g_Matches W z2.heap.size A0 n0 c0 x.fields hM.f _ n4 c4 x.tables hM.t (by have := hW.size; omega) (.slice A1 n1 c1) (.slice A2 n2 c2) (.slice A3 n3 c3) (.slice A5 n5 c5) (.slice A6 n6 c6) (.slice A7 n7 c7) (.int .i64 x.maxBatch) (.int .i64 x.budget) e _ me ce (.slice Au nu cu) (HRM9.out.below kept_match hbW) (Q 0) (Q 1) (Q 2) (Q 3) (pt4_ltQ Q hQ) b hb
        · have hbW := hW.mono (show z2.heap.size ≤ W9.heap.size by omega)
          have hM := HM9.out.below hbW
          exact g_rMatches hM (by have := hW.size; omega) (.int .i64 x.maxBatch) (.int .i64 x.budget) e _ me ce (.slice Au nu cu) (HRM9.out.below kept_match hbW) (Q 0) (Q 1) (Q 2) (Q 3) (pt4_ltQ Q hQ) r t hix HT.out hlen ht4 (keys_fields (gen_ok HOK.out) (List.mem_of_getElem? HT.out)) (ent_pre HFIT.out) b (by rw [hb, mat_iffQ htb hlen ht4])
      obtain ⟨pr, hpr⟩ : ∃ pr, pr = preE x.tables e := ⟨_, rfl⟩
      have KP1 : Hid (∀ W, Below W9.heap.size W9 W → Calls Try.prog 19 #[.agg #[.slice A0 n0 c0, .slice A1 n1 c1, .slice A2 n2 c2, .slice A3 n3 c3, .slice A4 n4 c4, .slice A5 n5 c5, .slice A6 n6 c6, .slice A7 n7 c7, .int .i64 x.maxBatch, .int .i64 x.budget], .agg #[.int .i64 e.table, .slice Ae me ce, .int .i64 e.prio, .int .i64 e.action, .slice Au nu cu]] W (RetX (.int .i64 pr) W)) := Lib.hid fun W hW => by
        have hbW := hW.mono (show z2.heap.size ≤ W9.heap.size by omega)
        rw [hpr]
        exact g_Prefix W z2.heap.size A4 n4 c4 x.tables (HM9.out.below hbW).t (by have := hW.size; omega) (.slice A0 n0 c0) (.slice A1 n1 c1) (.slice A2 n2 c2) (.slice A3 n3 c3) (.slice A5 n5 c5) (.slice A6 n6 c6) (.slice A7 n7 c7) (.int .i64 x.maxBatch) (.int .i64 x.budget) e _ me ce (.slice Au nu cu) (HRM9.out.below kept_match hbW)
      have KP2 : Hid (∀ W, Below W9.heap.size W9 W → Calls Try.prog 20 #[.agg #[.slice A0 n0 c0, .slice A1 n1 c1, .slice A2 n2 c2, .slice A3 n3 c3, .slice A4 n4 c4, .slice A5 n5 c5, .slice A6 n6 c6, .slice A7 n7 c7, .int .i64 x.maxBatch, .int .i64 x.budget], .agg #[.int .i64 e.table, .slice Ae me ce, .int .i64 e.prio, .int .i64 e.action, .slice Au nu cu]] W (RetX (.int .i64 pr) W)) := Lib.hid fun W hW => by
        have hbW := hW.mono (show z2.heap.size ≤ W9.heap.size by omega)
        rw [hpr]
        exact g_rPrefix (HM9.out.below hbW) (by have := hW.size; omega) (.int .i64 x.maxBatch) (.int .i64 x.budget) e _ me ce (.slice Au nu cu) (HRM9.out.below kept_match hbW)
      clear htb hlen ht4 hix HM9 hpr
      go_loopw [98] (fun i W => ∃ k : Nat, k ≤ 3 ∧ i = .int .i64 k ∧ Below W9.heap.size W9 W) (fun i _ => 3 - (intOf i).toNat)
      case atStart => exact ⟨0, by omega, rfl, Below.refl _ _⟩
      case round =>
        obtain ⟨k, hk, rfl, hbw⟩ := hrel
        obtain ⟨wr4, hwr4⟩ : ∃ x, x = wr := ⟨_, rfl⟩
        subst hwr4
        have hzr4 := hbw.size
        have H94 := Lib.hid hbw
        clear hbw
        by_cases hlt : k < 3
        · have j1 : (k : Int) < 3 := by omega
          have j0 : 0 ≤ (k : Int) := by omega
          obtain ⟨Q, hQ8, d0, d1, d2, d3, d4, d5, d6, d7⟩ : ∃ Q : Nat → Nat, (∀ i, Q i < 2 ^ 128) ∧ wr4.cell? ⟨z2.heap.size, k * 8, none⟩ = some (.int .u64 (hi (Q 0))) ∧ wr4.cell? ⟨z2.heap.size, k * 8 + 1, none⟩ = some (.int .u64 (lo (Q 0))) ∧ wr4.cell? ⟨z2.heap.size, k * 8 + 2, none⟩ = some (.int .u64 (hi (Q 1))) ∧ wr4.cell? ⟨z2.heap.size, k * 8 + 3, none⟩ = some (.int .u64 (lo (Q 1))) ∧ wr4.cell? ⟨z2.heap.size, k * 8 + 4, none⟩ = some (.int .u64 (hi (Q 2))) ∧ wr4.cell? ⟨z2.heap.size, k * 8 + 5, none⟩ = some (.int .u64 (lo (Q 2))) ∧ wr4.cell? ⟨z2.heap.size, k * 8 + 6, none⟩ = some (.int .u64 (hi (Q 3))) ∧ wr4.cell? ⟨z2.heap.size, k * 8 + 7, none⟩ = some (.int .u64 (lo (Q 3))) := by
            have q := (H94.out.block z2.heap.size (by omega)).trans BR9.out
            match k, hlt with
            | 0, _ => exact ⟨p, HP.out, blk_cell q 0 _ rfl, blk_cell q 1 _ rfl, blk_cell q 2 _ rfl, blk_cell q 3 _ rfl, blk_cell q 4 _ rfl, blk_cell q 5 _ rfl, blk_cell q 6 _ rfl, blk_cell q 7 _ rfl⟩
            | 1, _ => exact ⟨y1, Y1.out, blk_cell q 8 _ rfl, blk_cell q 9 _ rfl, blk_cell q 10 _ rfl, blk_cell q 11 _ rfl, blk_cell q 12 _ rfl, blk_cell q 13 _ rfl, blk_cell q 14 _ rfl, blk_cell q 15 _ rfl⟩
            | 2, _ => exact ⟨y2, Y2.out, blk_cell q 16 _ rfl, blk_cell q 17 _ rfl, blk_cell q 18 _ rfl, blk_cell q 19 _ rfl, blk_cell q 20 _ rfl, blk_cell q 21 _ rfl, blk_cell q 22 _ rfl, blk_cell q 23 _ rfl⟩
          have HQ := Lib.hid hQ8
          clear hQ8
          go_upto_region 21 with fail
          obtain ⟨W10, hW10⟩ : ∃ W, W = wr4.alloc (.cells #[.int .u64 (hi (Q 0)), .int .u64 (lo (Q 0)), .int .u64 (hi (Q 1)), .int .u64 (lo (Q 1)), .int .u64 (hi (Q 2)), .int .u64 (lo (Q 2)), .int .u64 (hi (Q 3)), .int .u64 (lo (Q 3))] 29) := ⟨_, rfl⟩
          rw [← hW10]
          have hb10 : Below wr4.heap.size wr4 W10 := by rw [hW10]; exact (Below.refl _ _).alloc (Nat.le_refl _) _
          have hz10 : W10.heap.size = wr4.heap.size + 1 := by rw [hW10]; simp
          have BQ10 : Hid (W10.heap[wr4.heap.size]? = some (.cells (ptcQ Q).toArray 29 (0, 0))) := Lib.hid (by rw [hW10]; exact heap_alloc_new _ _)
          have H910 := Lib.hid (H94.out.trans (hb10.mono (by omega)))
          clear hW10 hb10 d0 d1 d2 d3 d4 d5 d6 d7
          by_cases hk0 : k = 0
          · subst hk0
            obtain ⟨b, KMa, KMb⟩ := HKM.out Q HQ.out
            have K1 : Hid (∀ W, Below W10.heap.size W10 W → Calls Try.prog 17 #[.agg #[.slice A0 n0 c0, .slice A1 n1 c1, .slice A2 n2 c2, .slice A3 n3 c3, .slice A4 n4 c4, .slice A5 n5 c5, .slice A6 n6 c6, .slice A7 n7 c7, .int .i64 x.maxBatch, .int .i64 x.budget], .agg #[.int .i64 e.table, .slice Ae me ce, .int .i64 e.prio, .int .i64 e.action, .slice Au nu cu], .agg #[.int .u64 (hi (Q 0)), .int .u64 (lo (Q 0)), .int .u64 (hi (Q 1)), .int .u64 (lo (Q 1)), .int .u64 (hi (Q 2)), .int .u64 (lo (Q 2)), .int .u64 (hi (Q 3)), .int .u64 (lo (Q 3))]] W (RetX (.bool b) W)) := Lib.hid fun W h => KMa W (H910.out.trans (h.mono H910.out.size))
            have K2 : Hid (∀ W, Below W10.heap.size W10 W → Calls Try.prog 18 #[.agg #[.slice A0 n0 c0, .slice A1 n1 c1, .slice A2 n2 c2, .slice A3 n3 c3, .slice A4 n4 c4, .slice A5 n5 c5, .slice A6 n6 c6, .slice A7 n7 c7, .int .i64 x.maxBatch, .int .i64 x.budget], .agg #[.int .i64 e.table, .slice Ae me ce, .int .i64 e.prio, .int .i64 e.action, .slice Au nu cu], .agg #[.int .u64 (hi (Q 0)), .int .u64 (lo (Q 0)), .int .u64 (hi (Q 1)), .int .u64 (lo (Q 1)), .int .u64 (hi (Q 2)), .int .u64 (lo (Q 2)), .int .u64 (hi (Q 3)), .int .u64 (lo (Q 3))]] W (RetX (.bool b) W)) := Lib.hid fun W h => KMb W (H910.out.trans (h.mono H910.out.size))
            have BSt := Lib.hid ((H910.out.block w4.heap.size (by omega)).trans BS9.out)
            have BEt := Lib.hid ((H910.out.block w6.heap.size (by omega)).trans BE9.out)
            have hzt := H910.out.size
            have hlt4 : wr4.heap.size < W10.heap.size := (Array.getElem?_eq_some_iff.1 BQ10.out).1
            clear KMa KMb
            have HKS : Hid (∀ w', Below W10.heap.size W10 w' → Below W10.heap.size W10 w' ∧ w'.cell? ⟨w4.heap.size, 0, none⟩ = some (.slice A0 n0 c0) ∧ w'.cell? ⟨w4.heap.size, 1, none⟩ = some (.slice A1 n1 c1) ∧ w'.cell? ⟨w4.heap.size, 2, none⟩ = some (.slice A2 n2 c2) ∧ w'.cell? ⟨w4.heap.size, 3, none⟩ = some (.slice A3 n3 c3) ∧ w'.cell? ⟨w4.heap.size, 4, none⟩ = some (.slice A4 n4 c4) ∧ w'.cell? ⟨w4.heap.size, 5, none⟩ = some (.slice A5 n5 c5) ∧ w'.cell? ⟨w4.heap.size, 6, none⟩ = some (.slice A6 n6 c6) ∧ w'.cell? ⟨w4.heap.size, 7, none⟩ = some (.slice A7 n7 c7) ∧ w'.cell? ⟨w4.heap.size, 8, none⟩ = some (.int .i64 x.maxBatch) ∧ w'.cell? ⟨w4.heap.size, 9, none⟩ = some (.int .i64 x.budget) ∧ w'.cell? ⟨w6.heap.size, 0, none⟩ = some (.int .i64 e.table) ∧ w'.cell? ⟨w6.heap.size, 1, none⟩ = some (.slice Ae me ce) ∧ w'.cell? ⟨w6.heap.size, 2, none⟩ = some (.int .i64 e.prio) ∧ w'.cell? ⟨w6.heap.size, 3, none⟩ = some (.int .i64 e.action) ∧ w'.cell? ⟨w6.heap.size, 4, none⟩ = some (.slice Au nu cu) ∧ w'.cell? ⟨wr4.heap.size, 0, none⟩ = some (.int .u64 (hi (Q 0))) ∧ w'.cell? ⟨wr4.heap.size, 1, none⟩ = some (.int .u64 (lo (Q 0))) ∧ w'.cell? ⟨wr4.heap.size, 2, none⟩ = some (.int .u64 (hi (Q 1))) ∧ w'.cell? ⟨wr4.heap.size, 3, none⟩ = some (.int .u64 (lo (Q 1))) ∧ w'.cell? ⟨wr4.heap.size, 4, none⟩ = some (.int .u64 (hi (Q 2))) ∧ w'.cell? ⟨wr4.heap.size, 5, none⟩ = some (.int .u64 (lo (Q 2))) ∧ w'.cell? ⟨wr4.heap.size, 6, none⟩ = some (.int .u64 (hi (Q 3))) ∧ w'.cell? ⟨wr4.heap.size, 7, none⟩ = some (.int .u64 (lo (Q 3)))) := Lib.hid fun w' hb => by
              have q0 := (hb.block (w4.heap.size) (by omega)).trans BSt.out
              have q1 := (hb.block (w6.heap.size) (by omega)).trans BEt.out
              have q2 := (hb.block (wr4.heap.size) (by omega)).trans BQ10.out
              exact ⟨hb, blk_cell q0 0 _ rfl, blk_cell q0 1 _ rfl, blk_cell q0 2 _ rfl, blk_cell q0 3 _ rfl, blk_cell q0 4 _ rfl, blk_cell q0 5 _ rfl, blk_cell q0 6 _ rfl, blk_cell q0 7 _ rfl, blk_cell q0 8 _ rfl, blk_cell q0 9 _ rfl, blk_cell q1 0 _ rfl, blk_cell q1 1 _ rfl, blk_cell q1 2 _ rfl, blk_cell q1 3 _ rfl, blk_cell q1 4 _ rfl, blk_cell q2 0 _ rfl, blk_cell q2 1 _ rfl, blk_cell q2 2 _ rfl, blk_cell q2 3 _ rfl, blk_cell q2 4 _ rfl, blk_cell q2 5 _ rfl, blk_cell q2 6 _ rfl, blk_cell q2 7 _ rfl⟩
            go_wp2_with fail
            go_region_held3 (fun w' => Below W10.heap.size W10 w' ∧ w'.cell? ⟨w4.heap.size, 0, none⟩ = some (.slice A0 n0 c0) ∧ w'.cell? ⟨w4.heap.size, 1, none⟩ = some (.slice A1 n1 c1) ∧ w'.cell? ⟨w4.heap.size, 2, none⟩ = some (.slice A2 n2 c2) ∧ w'.cell? ⟨w4.heap.size, 3, none⟩ = some (.slice A3 n3 c3) ∧ w'.cell? ⟨w4.heap.size, 4, none⟩ = some (.slice A4 n4 c4) ∧ w'.cell? ⟨w4.heap.size, 5, none⟩ = some (.slice A5 n5 c5) ∧ w'.cell? ⟨w4.heap.size, 6, none⟩ = some (.slice A6 n6 c6) ∧ w'.cell? ⟨w4.heap.size, 7, none⟩ = some (.slice A7 n7 c7) ∧ w'.cell? ⟨w4.heap.size, 8, none⟩ = some (.int .i64 x.maxBatch) ∧ w'.cell? ⟨w4.heap.size, 9, none⟩ = some (.int .i64 x.budget) ∧ w'.cell? ⟨w6.heap.size, 0, none⟩ = some (.int .i64 e.table) ∧ w'.cell? ⟨w6.heap.size, 1, none⟩ = some (.slice Ae me ce) ∧ w'.cell? ⟨w6.heap.size, 2, none⟩ = some (.int .i64 e.prio) ∧ w'.cell? ⟨w6.heap.size, 3, none⟩ = some (.int .i64 e.action) ∧ w'.cell? ⟨w6.heap.size, 4, none⟩ = some (.slice Au nu cu) ∧ w'.cell? ⟨wr4.heap.size, 0, none⟩ = some (.int .u64 (hi (Q 0))) ∧ w'.cell? ⟨wr4.heap.size, 1, none⟩ = some (.int .u64 (lo (Q 0))) ∧ w'.cell? ⟨wr4.heap.size, 2, none⟩ = some (.int .u64 (hi (Q 1))) ∧ w'.cell? ⟨wr4.heap.size, 3, none⟩ = some (.int .u64 (lo (Q 1))) ∧ w'.cell? ⟨wr4.heap.size, 4, none⟩ = some (.int .u64 (hi (Q 2))) ∧ w'.cell? ⟨wr4.heap.size, 5, none⟩ = some (.int .u64 (lo (Q 2))) ∧ w'.cell? ⟨wr4.heap.size, 6, none⟩ = some (.int .u64 (hi (Q 3))) ∧ w'.cell? ⟨wr4.heap.size, 7, none⟩ = some (.int .u64 (lo (Q 3))))
              (first
                | exact HKS.out _ (Below.drew (Below.refl _ _))
                | exact HKS.out _ (below_call (And.left (by assumption)) (by assumption))
                | assumption)
              (first
                | (go_at_call 17; (with_reducible refine (K1.out _ (And.left (by assumption))).mono ?_); rintro en u1 ⟨rfl, hu1⟩; have U1 := Lib.hid ((Below.refl W10.heap.size W10).drew.trans hu1))
                | (go_at_call 18; (with_reducible refine (K2.out _ (And.left (by assumption))).mono ?_); rintro en u2 ⟨rfl, hu2⟩; have U2 := Lib.hid (U1.out.trans (hu2.mono U1.out.size))))
            go_wp2_with fail
            go_roundw
            case rel => exact ⟨0 + 1, by omega, by simp, H910.out.trans (U2.out.mono hzt)⟩
            case measure => simp [intOf]
          · have hkp : 0 < k := by omega
            have e1 : W10.cell? ⟨w6.heap.size, 1, none⟩ = some (.slice Ae me ce) := blk_cell ((H910.out.block w6.heap.size (by omega)).trans BE9.out) 1 _ rfl
            go_wp2_with fail
            go_loopw [108] (fun i W => ∃ q : Nat, q ≤ me ∧ i = .int .i64 q ∧ Below W9.heap.size W9 W ∧ W10.heap.size ≤ W.heap.size ∧ ∃ z : Nat → Nat, W.heap[wr4.heap.size]? = some (.cells (ptcQ z).toArray 29 (0, 0)) ∧ ∀ i, z i < 2 ^ 128) (fun i _ => me - (intOf i).toNat)
            case atStart => exact ⟨0, by omega, rfl, H910.out, Nat.le_refl _, Q, BQ10.out, HQ.out⟩
            case round =>
              clear e1
              obtain ⟨q, hq, rfl, hbw, hsz, z, hz, hz8⟩ := hrel
              obtain ⟨wr5, hwr5⟩ : ∃ x, x = wr := ⟨_, rfl⟩
              subst hwr5
              have H95 := Lib.hid hbw
              have BZ5 := Lib.hid hz
              have HZ8 := Lib.hid hz8
              clear hbw hz hz8
              by_cases hlt5 : q < me
              · obtain ⟨mb, mo, e2, m2, hmm, hmbB, ds, hds, hVM⟩ := row_at (HRM9.out.below kept_match (H95.out.mono (show z2.heap.size ≤ W9.heap.size by omega))) (q := q) (by rw [← hme.out]; exact hlt5)
                obtain ⟨rfl, hmok2⟩ := hVM
                subst e2
                have hq4 : q < 4 := by omega
                have q0 : 0 ≤ (q : Int) := by omega
                have q1 : (q : Int) < 4 := by omega
                have q2 : (q : Int) < (me : Int) := by omega
                have q3 : (q : Int) < (ce : Int) := by omega
                have x0 : wr5.cell? ⟨mb, mo + q * 8, none⟩ = some _ := hds.at0 _ rfl
                have x1 : wr5.cell? ⟨mb, mo + q * 8 + 1, none⟩ = some _ := hds.at 1 _ rfl
                have x2 : wr5.cell? ⟨mb, mo + q * 8 + 2, none⟩ = some _ := hds.at 2 _ rfl
                have x3 : wr5.cell? ⟨mb, mo + q * 8 + 3, none⟩ = some _ := hds.at 3 _ rfl
                have x4 : wr5.cell? ⟨mb, mo + q * 8 + 4, none⟩ = some _ := hds.at 4 _ rfl
                have x5 : wr5.cell? ⟨mb, mo + q * 8 + 5, none⟩ = some _ := hds.at 5 _ rfl
                have x6 : wr5.cell? ⟨mb, mo + q * 8 + 6, none⟩ = some _ := hds.at 6 _ rfl
                have x7 : wr5.cell? ⟨mb, mo + q * 8 + 7, none⟩ = some _ := hds.at 7 _ rfl
                have HMV := Lib.hid hmok2.1
                clear hds hmm hmok2
                go_upto_region 25 with fail
                obtain ⟨W14, hW14⟩ : ∃ W, W = wr5.alloc (.cells #[.bool m2.pres, .int .u64 (hi m2.val), .int .u64 (lo m2.val), .int .u64 (hi m2.mask), .int .u64 (lo m2.mask), .int .i64 m2.pre, .int .u64 (hi m2.high), .int .u64 (lo m2.high)] 27) := ⟨_, rfl⟩
                rw [← hW14]
                have hb14 : Below wr5.heap.size wr5 W14 := by rw [hW14]; exact (Below.refl _ _).alloc (Nat.le_refl _) _
                have hz14 : W14.heap.size = wr5.heap.size + 1 := by rw [hW14]; simp
                have BM14 : Hid (W14.heap[wr5.heap.size]? = some (.cells #[.bool m2.pres, .int .u64 (hi m2.val), .int .u64 (lo m2.val), .int .u64 (hi m2.mask), .int .u64 (lo m2.mask), .int .i64 m2.pre, .int .u64 (hi m2.high), .int .u64 (lo m2.high)] 27 (0, 0))) := Lib.hid (by rw [hW14]; exact heap_alloc_new _ _)
                have BZ14 := Lib.hid ((hb14.block wr4.heap.size (by omega)).trans BZ5.out)
                have H914 := Lib.hid (H95.out.trans (hb14.mono (by omega)))
                clear hW14 hb14 x0 x1 x2 x3 x4 x5 x6 x7
                obtain ⟨Z, hZ⟩ : ∃ Z, Z = z q := ⟨_, rfl⟩
                have hZ8 : Z < 2 ^ 128 := by rw [hZ]; exact HZ8.out q
                have c0 : (ptcQ z).toArray[q * 2]? = some (.int .u64 (hi Z)) := by rw [hZ]; exact (ptc_atAQ z q hq4).1
                have c1 : (ptcQ z).toArray[q * 2 + 1]? = some (.int .u64 (lo Z)) := by rw [hZ]; exact (ptc_atAQ z q hq4).2
                obtain ⟨L, hL⟩ : ∃ L, L = lowB Z (4 * (k : Int) - 4) := ⟨_, rfl⟩
                have hL8 : L < 2 ^ 128 := by rw [hL]; unfold lowB; exact Nat.lt_of_le_of_lt (Nat.mod_le _ _) hZ8
                have KL : Hid (∀ W, Calls Try.prog 10 #[.agg #[.int .u64 (hi Z), .int .u64 (lo Z)], .int .i64 (4 * (k : Int) - 4)] W (RetV L W)) := Lib.hid fun W => by rw [hL]; exact cs_low Z _ hZ8 (by omega) W
                obtain ⟨X, hX⟩ : ∃ X, X = m2.val ^^^ L := ⟨_, rfl⟩
                have hX8 : X < 2 ^ 128 := by rw [hX]; exact Nat.xor_lt_two_pow HMV.out hL8
                have KX : Hid (∀ W, Calls Try.prog 9 #[.agg #[.int .u64 (hi m2.val), .int .u64 (lo m2.val)], .agg #[.int .u64 (hi L), .int .u64 (lo L)]] W (RetV X W)) := Lib.hid fun W => by rw [hX]; exact rxor_any m2.val L HMV.out hL8 W
                have HX8 := Lib.hid hX8
                have hwm : IntKind.i64.wrap (4 * (k : Int)) = 4 * (k : Int) := IntWalk.i64_in _ (by omega)
                have hws : IntKind.i64.wrap (4 * (k : Int) - 4) = 4 * (k : Int) - 4 := IntWalk.i64_in _ (by omega)
                have HKS : Hid (∀ w', Below W14.heap.size W14 w' → Below W14.heap.size W14 w' ∧ w'.cell? ⟨wr5.heap.size, 1, none⟩ = some (.int .u64 (hi m2.val)) ∧ w'.cell? ⟨wr5.heap.size, 2, none⟩ = some (.int .u64 (lo m2.val)) ∧ w'.cell? ⟨wr4.heap.size, q * 2, none⟩ = some (.int .u64 (hi Z)) ∧ w'.cell? ⟨wr4.heap.size, q * 2 + 1, none⟩ = some (.int .u64 (lo Z)) ∧ w'.frozen? ⟨wr4.heap.size, q * 2, none⟩ = false ∧ w'.frozen? ⟨wr4.heap.size, q * 2 + 1, none⟩ = false) := Lib.hid fun w' hb => by
                  have q0 := (hb.block wr5.heap.size (by omega)).trans BM14.out
                  have q1 := (hb.block wr4.heap.size (by omega)).trans BZ14.out
                  exact ⟨hb, blk_cell q0 1 _ rfl, blk_cell q0 2 _ rfl, blk_cell q1 (q * 2) _ c0, blk_cell q1 (q * 2 + 1) _ c1, blk_froz q1 _, blk_froz q1 _⟩
                clear hZ hZ8 hL hL8 hX hX8 c0 c1
                refine wp_region_lastH (N := 12) (S := fun w' => Below W14.heap.size W14 w' ∧ w'.cell? ⟨wr5.heap.size, 1, none⟩ = some (.int .u64 (hi m2.val)) ∧ w'.cell? ⟨wr5.heap.size, 2, none⟩ = some (.int .u64 (lo m2.val)) ∧ w'.cell? ⟨wr4.heap.size, q * 2, none⟩ = some (.int .u64 (hi Z)) ∧ w'.cell? ⟨wr4.heap.size, q * 2 + 1, none⟩ = some (.int .u64 (lo Z)) ∧ w'.frozen? ⟨wr4.heap.size, q * 2, none⟩ = false ∧ w'.frozen? ⟨wr4.heap.size, q * 2 + 1, none⟩ = false) (by kernel_rfl) (by kernel_rfl) (HKS.out _ (Below.drew (Below.refl _ _))) (fun hHeld => ?_)
                simp only [List.pop_toArray, List.dropLast_cons_cons, List.dropLast_singleton]
                refine wpAnyH_take (i := 0) (oi := _) (v := ?_) rfl (by kernel_rfl) (by kernel_rfl) (by kernel_rfl) (fun _ _ _ h => h) (Or.inl ⟨by rfl, ?_⟩) hHeld ?_
                rotate_left
                · (intro w1 hSw; (try dsimp only at hSw); go_simp; all_goals with_reducible rfl)
                (try go_frame)
                refine wpAnyH_take (i := 1) (oi := _) (v := ?_) rfl (by kernel_rfl) (by kernel_rfl) (by kernel_rfl) (fun _ _ _ h => h) (Or.inl ⟨by rfl, ?_⟩) hHeld ?_
                rotate_left
                · (intro w1 hSw; (try dsimp only at hSw); go_simp; all_goals with_reducible rfl)
                (try go_frame)
                refine wpAnyH_take (i := 2) (oi := _) (v := ?_) rfl (by kernel_rfl) (by kernel_rfl) (by kernel_rfl) (fun _ _ _ h => h) (Or.inl ⟨by rfl, ?_⟩) hHeld ?_
                rotate_left
                · (intro w1 hSw; (try dsimp only at hSw); go_simp; all_goals with_reducible rfl)
                (try go_frame)
                refine wpAnyH_take (i := 3) (oi := _) (v := ?_) rfl (by kernel_rfl) (by kernel_rfl) (by kernel_rfl) (fun _ _ _ h => h) (Or.inl ⟨by rfl, ?_⟩) hHeld ?_
                rotate_left
                · (intro w1 hSw; (try dsimp only at hSw); go_simp; all_goals with_reducible rfl)
                (try go_frame)
                refine wpAnyH_take (i := 4) (oi := _) (v := ?_) rfl (by kernel_rfl) (by kernel_rfl) (by kernel_rfl) (fun _ _ _ h => h) (Or.inl ⟨by rfl, ?_⟩) hHeld ?_
                rotate_left
                · (intro w1 hSw; (try dsimp only at hSw); go_simp; all_goals with_reducible rfl)
                (try go_frame)
                refine wpAnyH_take (i := 5) (oi := _) (v := ?_) rfl (by kernel_rfl) (by kernel_rfl) (by kernel_rfl) (fun _ _ _ h => h) (Or.inl ⟨by rfl, ?_⟩) hHeld ?_
                rotate_left
                · (intro w1 hSw; (try dsimp only at hSw); go_simp; all_goals with_reducible rfl)
                (try go_frame)
                refine wpAnyH_take (i := 6) (oi := _) (v := ?_) rfl (by kernel_rfl) (by kernel_rfl) (by kernel_rfl) (fun _ _ _ h => h) (Or.inl ⟨by rfl, ?_⟩) hHeld ?_
                rotate_left
                · (intro w1 hSw; (try dsimp only at hSw); go_simp; all_goals with_reducible rfl)
                (try go_frame)
                refine wpAnyH_take (i := 7) (oi := _) (v := ?_) rfl (by kernel_rfl) (by kernel_rfl) (by kernel_rfl) (fun _ _ _ h => h) (Or.inl ⟨by rfl, ?_⟩) hHeld ?_
                rotate_left
                · (intro w1 hSw; (try dsimp only at hSw); go_simp; all_goals with_reducible rfl)
                (try go_frame)
                refine wpAnyH_take (i := 8) (oi := _) (v := ?_) rfl (by kernel_rfl) (by kernel_rfl) (by kernel_rfl) (fun _ _ _ h => h) (Or.inl ⟨by rfl, ?_⟩) hHeld ?_
                rotate_left
                · (intro w1 hSw; (try dsimp only at hSw); go_simp; all_goals with_reducible rfl)
                (try go_frame)
                refine wpAnyH_ready (rs := [9]) (by kernel_rfl) (by simp) ?_
                refine AllReadyH.cons (o := _) rfl (fun K hK => ?_) AllReadyH.nil
                go_simp
                go_at_call 10; (with_reducible refine (KL.out _).mono ?_); rintro en w15 ⟨rfl, hv15⟩; have B15 := Lib.hid ((Below.refl W14.heap.size W14).drew.trans hv15)
                go_wp2_with fail
                refine hK.out _ _ ?_ (fun hHeld2 => ?_)
                · exact HKS.out _ B15.out
                clear hK K hHeld
                have hHeld := hHeld2
                clear hHeld2
                (try go_frame)
                refine wpAnyH_ready (rs := [10]) (by kernel_rfl) (by simp) ?_
                refine AllReadyH.cons (o := _) rfl (fun K hK => ?_) AllReadyH.nil
                go_simp
                go_at_call 9; (with_reducible refine (KX.out _).mono ?_); rintro en w16 ⟨rfl, hv16⟩; have B16 := Lib.hid (B15.out.trans (hv16.mono B15.out.size))
                go_wp2_with fail
                refine hK.out _ _ ?_ (fun hHeld2 => ?_)
                · exact HKS.out _ B16.out
                clear hK K hHeld
                have hHeld := hHeld2
                clear hHeld2
                (try go_frame)
                refine wpAnyH_take (i := 11) (oi := _) (v := ?_) rfl (by kernel_rfl) (by kernel_rfl) (by kernel_rfl) (fun _ _ _ h => h) (Or.inl ⟨by rfl, ?_⟩) hHeld ?_
                rotate_left
                · (intro w1 hSw; (try dsimp only at hSw); go_simp; all_goals with_reducible rfl)
                (try go_frame)
                refine wpAnyH_done (by kernel_rfl) ?_ _
                unfold QL
                refine wpOp_step rfl (fun K hK => ?_)
                obtain ⟨-, -, -, r0, r1, r2, r3⟩ := hHeld
                go_simp
                refine hK _ _ ?_
                clear hK K
                go_wp2_with fail
                go_roundw
                case rel =>
                  have B916 := H914.out.trans (B16.out.mono (show W9.heap.size ≤ W14.heap.size by omega))
                  have hs16 := B16.out.size
                  refine ⟨q + 1, by omega, by simp, Below.setCell (p := ⟨wr4.heap.size, _, none⟩) (Below.setCell (p := ⟨wr4.heap.size, _, none⟩) B916 (by show W9.heap.size ≤ wr4.heap.size; omega) _) (by show W9.heap.size ≤ wr4.heap.size; omega) _, by simp; omega, (fun i => if i = q then X else z i), ?_, fun i => ?_⟩
                  · rw [← ptc_setQ z q X hq4]; exact blk_set (blk_set ((B16.out.block wr4.heap.size (by omega)).trans BZ14.out) _ _) _ _
                  · show (if i = q then X else z i) < _
                    split
                    · exact HX8.out
                    · exact HZ8.out i
                case measure => simp [intOf]; omega
              · obtain rfl : me = q := by omega
                obtain ⟨b, KMa, KMb⟩ := HKM.out z HZ8.out
                have K1 : Hid (∀ W, Below wr5.heap.size wr5 W → Calls Try.prog 17 #[.agg #[.slice A0 n0 c0, .slice A1 n1 c1, .slice A2 n2 c2, .slice A3 n3 c3, .slice A4 n4 c4, .slice A5 n5 c5, .slice A6 n6 c6, .slice A7 n7 c7, .int .i64 x.maxBatch, .int .i64 x.budget], .agg #[.int .i64 e.table, .slice Ae me ce, .int .i64 e.prio, .int .i64 e.action, .slice Au nu cu], .agg #[.int .u64 (hi (z 0)), .int .u64 (lo (z 0)), .int .u64 (hi (z 1)), .int .u64 (lo (z 1)), .int .u64 (hi (z 2)), .int .u64 (lo (z 2)), .int .u64 (hi (z 3)), .int .u64 (lo (z 3))]] W (RetX (.bool b) W)) := Lib.hid fun W h => KMa W (H95.out.trans (h.mono H95.out.size))
                have K2 : Hid (∀ W, Below wr5.heap.size wr5 W → Calls Try.prog 18 #[.agg #[.slice A0 n0 c0, .slice A1 n1 c1, .slice A2 n2 c2, .slice A3 n3 c3, .slice A4 n4 c4, .slice A5 n5 c5, .slice A6 n6 c6, .slice A7 n7 c7, .int .i64 x.maxBatch, .int .i64 x.budget], .agg #[.int .i64 e.table, .slice Ae me ce, .int .i64 e.prio, .int .i64 e.action, .slice Au nu cu], .agg #[.int .u64 (hi (z 0)), .int .u64 (lo (z 0)), .int .u64 (hi (z 1)), .int .u64 (lo (z 1)), .int .u64 (hi (z 2)), .int .u64 (lo (z 2)), .int .u64 (hi (z 3)), .int .u64 (lo (z 3))]] W (RetX (.bool b) W)) := Lib.hid fun W h => KMb W (H95.out.trans (h.mono H95.out.size))
                have BSt := Lib.hid ((H95.out.block w4.heap.size (by omega)).trans BS9.out)
                have BEt := Lib.hid ((H95.out.block w6.heap.size (by omega)).trans BE9.out)
                have hzt := H95.out.size
                have hlt4 : wr4.heap.size < wr5.heap.size := (Array.getElem?_eq_some_iff.1 BZ5.out).1
                clear KMa KMb
                have HKS : Hid (∀ w', Below wr5.heap.size wr5 w' → Below wr5.heap.size wr5 w' ∧ w'.cell? ⟨w4.heap.size, 0, none⟩ = some (.slice A0 n0 c0) ∧ w'.cell? ⟨w4.heap.size, 1, none⟩ = some (.slice A1 n1 c1) ∧ w'.cell? ⟨w4.heap.size, 2, none⟩ = some (.slice A2 n2 c2) ∧ w'.cell? ⟨w4.heap.size, 3, none⟩ = some (.slice A3 n3 c3) ∧ w'.cell? ⟨w4.heap.size, 4, none⟩ = some (.slice A4 n4 c4) ∧ w'.cell? ⟨w4.heap.size, 5, none⟩ = some (.slice A5 n5 c5) ∧ w'.cell? ⟨w4.heap.size, 6, none⟩ = some (.slice A6 n6 c6) ∧ w'.cell? ⟨w4.heap.size, 7, none⟩ = some (.slice A7 n7 c7) ∧ w'.cell? ⟨w4.heap.size, 8, none⟩ = some (.int .i64 x.maxBatch) ∧ w'.cell? ⟨w4.heap.size, 9, none⟩ = some (.int .i64 x.budget) ∧ w'.cell? ⟨w6.heap.size, 0, none⟩ = some (.int .i64 e.table) ∧ w'.cell? ⟨w6.heap.size, 1, none⟩ = some (.slice Ae me ce) ∧ w'.cell? ⟨w6.heap.size, 2, none⟩ = some (.int .i64 e.prio) ∧ w'.cell? ⟨w6.heap.size, 3, none⟩ = some (.int .i64 e.action) ∧ w'.cell? ⟨w6.heap.size, 4, none⟩ = some (.slice Au nu cu) ∧ w'.cell? ⟨wr4.heap.size, 0, none⟩ = some (.int .u64 (hi (z 0))) ∧ w'.cell? ⟨wr4.heap.size, 1, none⟩ = some (.int .u64 (lo (z 0))) ∧ w'.cell? ⟨wr4.heap.size, 2, none⟩ = some (.int .u64 (hi (z 1))) ∧ w'.cell? ⟨wr4.heap.size, 3, none⟩ = some (.int .u64 (lo (z 1))) ∧ w'.cell? ⟨wr4.heap.size, 4, none⟩ = some (.int .u64 (hi (z 2))) ∧ w'.cell? ⟨wr4.heap.size, 5, none⟩ = some (.int .u64 (lo (z 2))) ∧ w'.cell? ⟨wr4.heap.size, 6, none⟩ = some (.int .u64 (hi (z 3))) ∧ w'.cell? ⟨wr4.heap.size, 7, none⟩ = some (.int .u64 (lo (z 3)))) := Lib.hid fun w' hb => by
                  have q0 := (hb.block (w4.heap.size) (by omega)).trans BSt.out
                  have q1 := (hb.block (w6.heap.size) (by omega)).trans BEt.out
                  have q2 := (hb.block (wr4.heap.size) (by omega)).trans BZ5.out
                  exact ⟨hb, blk_cell q0 0 _ rfl, blk_cell q0 1 _ rfl, blk_cell q0 2 _ rfl, blk_cell q0 3 _ rfl, blk_cell q0 4 _ rfl, blk_cell q0 5 _ rfl, blk_cell q0 6 _ rfl, blk_cell q0 7 _ rfl, blk_cell q0 8 _ rfl, blk_cell q0 9 _ rfl, blk_cell q1 0 _ rfl, blk_cell q1 1 _ rfl, blk_cell q1 2 _ rfl, blk_cell q1 3 _ rfl, blk_cell q1 4 _ rfl, blk_cell q2 0 _ rfl, blk_cell q2 1 _ rfl, blk_cell q2 2 _ rfl, blk_cell q2 3 _ rfl, blk_cell q2 4 _ rfl, blk_cell q2 5 _ rfl, blk_cell q2 6 _ rfl, blk_cell q2 7 _ rfl⟩
                go_wp2_with fail
                go_region_held3 (fun w' => Below wr5.heap.size wr5 w' ∧ w'.cell? ⟨w4.heap.size, 0, none⟩ = some (.slice A0 n0 c0) ∧ w'.cell? ⟨w4.heap.size, 1, none⟩ = some (.slice A1 n1 c1) ∧ w'.cell? ⟨w4.heap.size, 2, none⟩ = some (.slice A2 n2 c2) ∧ w'.cell? ⟨w4.heap.size, 3, none⟩ = some (.slice A3 n3 c3) ∧ w'.cell? ⟨w4.heap.size, 4, none⟩ = some (.slice A4 n4 c4) ∧ w'.cell? ⟨w4.heap.size, 5, none⟩ = some (.slice A5 n5 c5) ∧ w'.cell? ⟨w4.heap.size, 6, none⟩ = some (.slice A6 n6 c6) ∧ w'.cell? ⟨w4.heap.size, 7, none⟩ = some (.slice A7 n7 c7) ∧ w'.cell? ⟨w4.heap.size, 8, none⟩ = some (.int .i64 x.maxBatch) ∧ w'.cell? ⟨w4.heap.size, 9, none⟩ = some (.int .i64 x.budget) ∧ w'.cell? ⟨w6.heap.size, 0, none⟩ = some (.int .i64 e.table) ∧ w'.cell? ⟨w6.heap.size, 1, none⟩ = some (.slice Ae me ce) ∧ w'.cell? ⟨w6.heap.size, 2, none⟩ = some (.int .i64 e.prio) ∧ w'.cell? ⟨w6.heap.size, 3, none⟩ = some (.int .i64 e.action) ∧ w'.cell? ⟨w6.heap.size, 4, none⟩ = some (.slice Au nu cu) ∧ w'.cell? ⟨wr4.heap.size, 0, none⟩ = some (.int .u64 (hi (z 0))) ∧ w'.cell? ⟨wr4.heap.size, 1, none⟩ = some (.int .u64 (lo (z 0))) ∧ w'.cell? ⟨wr4.heap.size, 2, none⟩ = some (.int .u64 (hi (z 1))) ∧ w'.cell? ⟨wr4.heap.size, 3, none⟩ = some (.int .u64 (lo (z 1))) ∧ w'.cell? ⟨wr4.heap.size, 4, none⟩ = some (.int .u64 (hi (z 2))) ∧ w'.cell? ⟨wr4.heap.size, 5, none⟩ = some (.int .u64 (lo (z 2))) ∧ w'.cell? ⟨wr4.heap.size, 6, none⟩ = some (.int .u64 (hi (z 3))) ∧ w'.cell? ⟨wr4.heap.size, 7, none⟩ = some (.int .u64 (lo (z 3))))
                  (first
                    | exact HKS.out _ (Below.drew (Below.refl _ _))
                    | exact HKS.out _ (below_call (And.left (by assumption)) (by assumption))
                    | assumption)
                  (first
                    | (go_at_call 17; (with_reducible refine (K1.out _ (And.left (by assumption))).mono ?_); rintro en u1 ⟨rfl, hu1⟩; have U1 := Lib.hid ((Below.refl wr5.heap.size wr5).drew.trans hu1))
                    | (go_at_call 18; (with_reducible refine (K2.out _ (And.left (by assumption))).mono ?_); rintro en u2 ⟨rfl, hu2⟩; have U2 := Lib.hid (U1.out.trans (hu2.mono U1.out.size))))
                go_wp2_with fail
                go_roundw
                case rel => exact ⟨k + 1, by omega, by simp, H95.out.trans (U2.out.mono hzt)⟩
                case measure => simp [intOf]; omega
        · obtain rfl : k = 3 := by omega
          have K1 : Hid (∀ W, Below wr4.heap.size wr4 W → Calls Try.prog 19 #[.agg #[.slice A0 n0 c0, .slice A1 n1 c1, .slice A2 n2 c2, .slice A3 n3 c3, .slice A4 n4 c4, .slice A5 n5 c5, .slice A6 n6 c6, .slice A7 n7 c7, .int .i64 x.maxBatch, .int .i64 x.budget], .agg #[.int .i64 e.table, .slice Ae me ce, .int .i64 e.prio, .int .i64 e.action, .slice Au nu cu]] W (RetX (.int .i64 pr) W)) := Lib.hid fun W h => KP1.out W (H94.out.trans (h.mono H94.out.size))
          have K2 : Hid (∀ W, Below wr4.heap.size wr4 W → Calls Try.prog 20 #[.agg #[.slice A0 n0 c0, .slice A1 n1 c1, .slice A2 n2 c2, .slice A3 n3 c3, .slice A4 n4 c4, .slice A5 n5 c5, .slice A6 n6 c6, .slice A7 n7 c7, .int .i64 x.maxBatch, .int .i64 x.budget], .agg #[.int .i64 e.table, .slice Ae me ce, .int .i64 e.prio, .int .i64 e.action, .slice Au nu cu]] W (RetX (.int .i64 pr) W)) := Lib.hid fun W h => KP2.out W (H94.out.trans (h.mono H94.out.size))
          have BSt := Lib.hid ((H94.out.block w4.heap.size (by omega)).trans BS9.out)
          have BEt := Lib.hid ((H94.out.block w6.heap.size (by omega)).trans BE9.out)
          have HKS : Hid (∀ w', Below wr4.heap.size wr4 w' → Below wr4.heap.size wr4 w' ∧ w'.cell? ⟨w4.heap.size, 0, none⟩ = some (.slice A0 n0 c0) ∧ w'.cell? ⟨w4.heap.size, 1, none⟩ = some (.slice A1 n1 c1) ∧ w'.cell? ⟨w4.heap.size, 2, none⟩ = some (.slice A2 n2 c2) ∧ w'.cell? ⟨w4.heap.size, 3, none⟩ = some (.slice A3 n3 c3) ∧ w'.cell? ⟨w4.heap.size, 4, none⟩ = some (.slice A4 n4 c4) ∧ w'.cell? ⟨w4.heap.size, 5, none⟩ = some (.slice A5 n5 c5) ∧ w'.cell? ⟨w4.heap.size, 6, none⟩ = some (.slice A6 n6 c6) ∧ w'.cell? ⟨w4.heap.size, 7, none⟩ = some (.slice A7 n7 c7) ∧ w'.cell? ⟨w4.heap.size, 8, none⟩ = some (.int .i64 x.maxBatch) ∧ w'.cell? ⟨w4.heap.size, 9, none⟩ = some (.int .i64 x.budget) ∧ w'.cell? ⟨w6.heap.size, 0, none⟩ = some (.int .i64 e.table) ∧ w'.cell? ⟨w6.heap.size, 1, none⟩ = some (.slice Ae me ce) ∧ w'.cell? ⟨w6.heap.size, 2, none⟩ = some (.int .i64 e.prio) ∧ w'.cell? ⟨w6.heap.size, 3, none⟩ = some (.int .i64 e.action) ∧ w'.cell? ⟨w6.heap.size, 4, none⟩ = some (.slice Au nu cu)) := Lib.hid fun w' hb => by
            have q0 := (hb.block (w4.heap.size) (by omega)).trans BSt.out
            have q1 := (hb.block (w6.heap.size) (by omega)).trans BEt.out
            exact ⟨hb, blk_cell q0 0 _ rfl, blk_cell q0 1 _ rfl, blk_cell q0 2 _ rfl, blk_cell q0 3 _ rfl, blk_cell q0 4 _ rfl, blk_cell q0 5 _ rfl, blk_cell q0 6 _ rfl, blk_cell q0 7 _ rfl, blk_cell q0 8 _ rfl, blk_cell q0 9 _ rfl, blk_cell q1 0 _ rfl, blk_cell q1 1 _ rfl, blk_cell q1 2 _ rfl, blk_cell q1 3 _ rfl, blk_cell q1 4 _ rfl⟩
          go_wp2_with fail
          go_region_held3 (fun w' => Below wr4.heap.size wr4 w' ∧ w'.cell? ⟨w4.heap.size, 0, none⟩ = some (.slice A0 n0 c0) ∧ w'.cell? ⟨w4.heap.size, 1, none⟩ = some (.slice A1 n1 c1) ∧ w'.cell? ⟨w4.heap.size, 2, none⟩ = some (.slice A2 n2 c2) ∧ w'.cell? ⟨w4.heap.size, 3, none⟩ = some (.slice A3 n3 c3) ∧ w'.cell? ⟨w4.heap.size, 4, none⟩ = some (.slice A4 n4 c4) ∧ w'.cell? ⟨w4.heap.size, 5, none⟩ = some (.slice A5 n5 c5) ∧ w'.cell? ⟨w4.heap.size, 6, none⟩ = some (.slice A6 n6 c6) ∧ w'.cell? ⟨w4.heap.size, 7, none⟩ = some (.slice A7 n7 c7) ∧ w'.cell? ⟨w4.heap.size, 8, none⟩ = some (.int .i64 x.maxBatch) ∧ w'.cell? ⟨w4.heap.size, 9, none⟩ = some (.int .i64 x.budget) ∧ w'.cell? ⟨w6.heap.size, 0, none⟩ = some (.int .i64 e.table) ∧ w'.cell? ⟨w6.heap.size, 1, none⟩ = some (.slice Ae me ce) ∧ w'.cell? ⟨w6.heap.size, 2, none⟩ = some (.int .i64 e.prio) ∧ w'.cell? ⟨w6.heap.size, 3, none⟩ = some (.int .i64 e.action) ∧ w'.cell? ⟨w6.heap.size, 4, none⟩ = some (.slice Au nu cu))
            (first
              | exact HKS.out _ (Below.drew (Below.refl _ _))
              | exact HKS.out _ (below_call (And.left (by assumption)) (by assumption))
              | assumption)
            (first
              | (go_at_call 19; (with_reducible refine (K1.out _ (And.left (by assumption))).mono ?_); rintro en u1 ⟨rfl, hu1⟩; have U1 := Lib.hid ((Below.refl wr4.heap.size wr4).drew.trans hu1))
              | (go_at_call 20; (with_reducible refine (K2.out _ (And.left (by assumption))).mono ?_); rintro en u2 ⟨rfl, hu2⟩; have U2 := Lib.hid (U1.out.trans (hu2.mono U1.out.size)))
              | (go_at_call 21; (with_reducible refine (g_begun _).mono ?_); rintro en u3 ⟨rfl, hu3⟩; have U3 := Lib.hid (U2.out.trans (hu3.mono U2.out.size))))
          go_wp2_with fail
          go_ret
          have HF := HB9.out.trans (H94.out.mono HB9.out.size)
          exact ⟨by first | rfl | simp, HF.trans (U3.out.mono HF.size)⟩
end
end Go.Proofs.Ytjdecoiciecfpaa
namespace Go.Proofs.Ytjdecoiciecfpaa.entryCovers
open Go.ChangeShapes Go.WideShapes Go.ChangeAt Go.RowKit Go.Joins
set_option maxRecDepth 100000 in
theorem lifted (os : Os) (started : os.Started) (H : Type) (enc : TypeId × Value → H) :
    ReturnsInHanded {} Try.checked os 3 .any (Rows.entryCoversSpec.pre6 enc Try.prog Try.f3 Rows.entryCoversRow.domain false) (Rows.entryCoversSpec.post enc Try.prog Try.f3 false true false false) := by
  refine returnsInHanded_of_change (C := Try.checked) own started (by kernel_rfl) Try.func3
    (ChangeSpec.witness6 (enc := enc) (C := Try.checked) false ⟨#[], #[.slice none 0 0, .slice none 0 0, .agg #[.bool false, .int .u64 0, .int .u64 0, .int .u64 0, .int .u64 0, .int .i64 0, .int .u64 0, .int .u64 0], .int .i64 0, .int .i64 0, .agg #[.int .u64 0, .int .u64 0], .agg #[.int .u64 0, .int .u64 0, .int .u64 0, .int .u64 0, .int .u64 0, .int .u64 0, .int .u64 0, .int .u64 0], .int .i64 0], []⟩ 8 (by kernel_rfl) (by kernel_rfl) (by kernel_rfl) (by kernel_rfl)) ?_
  intro W base args ds gs before hval0 hW hcnd _
  have hval : ∀ (j : Nat) t v, Try.f3.params[j]? = some t → args[j]? = some v → Value.okWide Try.prog W .any base t v := hval0
  have hW' := hW
  obtain ⟨p, q, hA0, hV, rfl, hfz, hnd⟩ := hW
  have hA : DataW.TrodAll enc Try.prog W 0 (fun _ => true) true Try.f3.params.toList args.toList ds p := hA0
  rw [Try.params3] at hA hval
  obtain ⟨v0, vs0, d0, ds0, p0, q0, hargs, rfl, rfl, h0, r0⟩ := trodAll_cons hA
  obtain ⟨v1, vs1, d1, ds1, p1, q1, rfl, rfl, rfl, h1, r1⟩ := trodAll_cons r0
  obtain ⟨v2, vs2, d2, ds2, p2, q2, rfl, rfl, rfl, h2, r2⟩ := trodAll_cons r1
  obtain ⟨v3, vs3, d3, ds3, p3, q3, rfl, rfl, rfl, h3, r3⟩ := trodAll_cons r2
  obtain ⟨v4, vs4, d4, ds4, p4, q4, rfl, rfl, rfl, h4, r4⟩ := trodAll_cons r3
  obtain ⟨v5, vs5, d5, ds5, p5, q5, rfl, rfl, rfl, h5, r5⟩ := trodAll_cons r4
  obtain ⟨v6, vs6, d6, ds6, p6, q6, rfl, rfl, rfl, h6, r6⟩ := trodAll_cons r5
  obtain ⟨v7, vs7, d7, ds7, p7, q7, rfl, rfl, rfl, h7, r7⟩ := trodAll_cons r6
  obtain ⟨rfl, rfl, rfl⟩ := trodAll_nil r7
  obtain rfl : args = #[v0, v1, v2, v3, v4, v5, v6, v7] := by cases args; simp_all
  obtain ⟨rfl, rfl⟩ := trodVars_none hV
  have k0 := h0
  have lt0 : ∀ x ∈ p0, x.block < W.heap.size := by obtain ⟨m, hm⟩ := k0; exact DataW.trod_lt m _ _ _ hm
  obtain ⟨a0, len0, cap0, rfl⟩ := okWide_slice Try.underlying22 (hval 0 22 v0 rfl rfl)
  obtain ⟨g0, c0, e0, w0⟩ := open_row h0
  obtain ⟨D0, l0, hl0, hs0, hr0, hd0⟩ := rd_list w0
  have k1 := h1
  have lt1 : ∀ x ∈ p1, x.block < W.heap.size := by obtain ⟨m, hm⟩ := k1; exact DataW.trod_lt m _ _ _ hm
  obtain ⟨a1, len1, cap1, rfl⟩ := okWide_slice Try.underlying22 (hval 1 22 v1 rfl rfl)
  obtain ⟨g1, c1, e1, w1⟩ := open_row h1
  obtain ⟨D1, l1, hl1, hs1, hr1, hd1⟩ := rd_list w1
  have k2 := h2
  have lt2 : ∀ x ∈ p2, x.block < W.heap.size := by obtain ⟨m, hm⟩ := k2; exact DataW.trod_lt m _ _ _ hm
  obtain ⟨y2, ok2, rfl⟩ := open_matchC (hval 2 27 v2 rfl rfl) h2
  have k3 := h3
  have lt3 : ∀ x ∈ p3, x.block < W.heap.size := by obtain ⟨m, hm⟩ := k3; exact DataW.trod_lt m _ _ _ hm
  obtain ⟨x3, rfl, _, _, w3⟩ := open_int Try.underlying3 (hval 3 3 v3 rfl rfl) h3
  have k4 := h4
  have lt4 : ∀ x ∈ p4, x.block < W.heap.size := by obtain ⟨m, hm⟩ := k4; exact DataW.trod_lt m _ _ _ hm
  obtain ⟨x4, rfl, _, _, w4⟩ := open_int Try.underlying3 (hval 4 3 v4 rfl rfl) h4
  have k5 := h5
  have lt5 : ∀ x ∈ p5, x.block < W.heap.size := by obtain ⟨m, hm⟩ := k5; exact DataW.trod_lt m _ _ _ hm
  obtain ⟨n5, b5, rfl⟩ := open_val (hval 5 25 v5 rfl rfl) h5
  have k6 := h6
  have lt6 : ∀ x ∈ p6, x.block < W.heap.size := by obtain ⟨m, hm⟩ := k6; exact DataW.trod_lt m _ _ _ hm
  obtain ⟨y6, hy6, rfl⟩ := open_ptC (hval 6 29 v6 rfl rfl) h6
  have k7 := h7
  have lt7 : ∀ x ∈ p7, x.block < W.heap.size := by obtain ⟨m, hm⟩ := k7; exact DataW.trod_lt m _ _ _ hm
  obtain ⟨x7, rfl, _, _, w7⟩ := open_int Try.underlying3 (hval 7 3 v7 rfl rfl) h7
  clear hA0 hval0
  refine (covers_any W a0 D0 len0 cap0 l0 hr0 hd0 hl0 c0 e0 hs0 a1 D1 len1 cap1 l1 hr1 hd1 hl1 c1 e1 hs1 y2 ok2 x3 x4 n5 b5 y6 hy6 x7).mono fun e W' ⟨he, bel⟩ => ?_
  subst he
  exact ⟨_, rfl, _, _, _, [], _, [], hW', trodAll_mk1 (shut_bool Try.underlying4 _), (trodAll_cons_mk (Below.trod laidOut (by kernel_rfl) (of_decide_eq_true (by kernel_rfl)) k0 bel lt0) (trodAll_cons_mk (Below.trod laidOut (by kernel_rfl) (of_decide_eq_true (by kernel_rfl)) k1 bel lt1) (trodAll_cons_mk (Below.trod laidOut (by kernel_rfl) (of_decide_eq_true (by kernel_rfl)) k2 bel lt2) (trodAll_cons_mk (Below.trod laidOut (by kernel_rfl) (of_decide_eq_true (by kernel_rfl)) k3 bel lt3) (trodAll_cons_mk (Below.trod laidOut (by kernel_rfl) (of_decide_eq_true (by kernel_rfl)) k4 bel lt4) (trodAll_cons_mk (Below.trod laidOut (by kernel_rfl) (of_decide_eq_true (by kernel_rfl)) k5 bel lt5) (trodAll_cons_mk (Below.trod laidOut (by kernel_rfl) (of_decide_eq_true (by kernel_rfl)) k6 bel lt6) (trodAll_cons_mk (Below.trod laidOut (by kernel_rfl) (of_decide_eq_true (by kernel_rfl)) k7 bel lt7) trodAll_mk0)))))))), rfl, bel.frame _, fun h => by cases h⟩

theorem holds : Rows.EntryCoversSaid :=
  OpenClaim.holds_of_wide 3 Try.f3 rfl rfl rfl rfl rfl rfl rfl ⟨rfl, rfl, rfl, rfl, rfl⟩ rfl rfl rfl rfl rfl (by kernel_rfl) Try.func3 (by kernel_rfl)
    (of_decide_eq_true (by kernel_rfl)) (by unfold Func.isWrapper; rw [if_neg (of_decide_eq_false (by kernel_rfl))]; exact ⟨rfl, rfl⟩)
    (fun os started H enc _ => lifted os started H enc)
#print axioms holds
end Go.Proofs.Ytjdecoiciecfpaa.entryCovers
