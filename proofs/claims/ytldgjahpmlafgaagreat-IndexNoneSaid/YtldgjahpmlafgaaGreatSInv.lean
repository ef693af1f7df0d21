/- A region that draws its order, by an invariant: whatever operation may come up keeps it. (For literals of slices, whose blocks may be made in any order.) -/
import Derived.Test.YtldgjahpmlafgaaGreatSMake
namespace Go.Proofs.YtldgjahpmlafgaaGreat
open Go.RowKit

/-- How many operations have not yet come up. -/
def leftOver (ops : Array Oper) (listed : Array Bool) : Nat := ((List.range ops.size).filter fun i => !listed.getD i true).length
theorem ready_sub {md : Region.Mode} {ops : Array Oper} {listed : Array Bool} {i : Nat} (h : i ∈ Region.ready md ops listed) : i < ops.size ∧ listed.getD i true = false := by
  unfold Region.ready at h
  obtain ⟨h1, h2⟩ := List.mem_filter.1 h
  rw [Bool.and_eq_true] at h2
  exact ⟨List.mem_range.1 h1, by simpa using h2.1⟩
theorem leftOver_set {ops : Array Oper} {listed : Array Bool} {i : Nat} (hi : i < ops.size) (hl : listed.getD i true = false) : leftOver ops (listed.setIfInBounds i true) < leftOver ops listed := by
  unfold leftOver
  have hlt : i < listed.size := by
    rcases Nat.lt_or_ge i listed.size with h | h
    · exact h
    · rw [Array.getD_eq_getD_getElem?, Array.getElem?_eq_none h] at hl; cases hl
  have key : ∀ (L : List Nat), i ∈ L → (L.filter fun j => !(listed.setIfInBounds i true).getD j true).length < (L.filter fun j => !listed.getD j true).length := by
    intro L
    have get : ∀ j, (listed.setIfInBounds i true).getD j true = (listed.getD j true || decide (j = i)) := fun j => by
      rw [Array.getD_eq_getD_getElem?, Array.getD_eq_getD_getElem?, Array.getElem?_setIfInBounds]
      by_cases h : i = j
      · subst h
        simp [hlt]
      · have h' : ¬ j = i := fun e => h e.symm
        simp [h, h']
    have le : ∀ (M : List Nat), (M.filter fun j => !(listed.setIfInBounds i true).getD j true).length ≤ (M.filter fun j => !listed.getD j true).length := fun M => by
      induction M with
      | nil => simp
      | cons x M ih =>
        rw [List.filter_cons, List.filter_cons, get x]
        by_cases hx : listed.getD x true = true
        · simp only [hx, Bool.true_or, Bool.not_true, Bool.false_eq_true, if_false]; exact ih
        · have hx' : listed.getD x true = false := by simpa using hx
          by_cases hxi : x = i
          · subst hxi
            simp only [hx', decide_true, Bool.or_true, Bool.not_true, Bool.false_eq_true, if_false, Bool.not_false, if_true, List.length_cons]; omega
          · simp only [hx', hxi, decide_false, Bool.or_false, Bool.not_false, if_true, List.length_cons]; omega
    induction L with
    | nil => intro h; simp at h
    | cons x M ih =>
      intro h
      rw [List.filter_cons, List.filter_cons, get x]
      by_cases hxi : x = i
      · subst hxi
        have := le M
        simp only [hl, decide_true, Bool.or_true, Bool.not_true, Bool.false_eq_true, if_false, Bool.not_false, if_true, List.length_cons]
        omega
      · have hm : i ∈ M := by
          rcases List.mem_cons.1 h with e | e
          · exact absurd e.symm hxi
          · exact e
        have := ih hm
        by_cases hx : listed.getD x true = true
        · simp only [hx, Bool.true_or, Bool.not_true, Bool.false_eq_true, if_false]; exact this
        · have hx' : listed.getD x true = false := by simpa using hx
          simp only [hx', hxi, decide_false, Bool.or_false, Bool.not_false, if_true, List.length_cons]; omega
  exact key _ (List.mem_range.2 hi)
section
variable {P : Program} {ops : Array Oper} {Q : Exit → Act → World → Prop} {md : Region.Mode}
/-- WHATEVER COMES UP KEEPS THE INVARIANT; WHERE NOTHING MAY COME UP ANY MORE, IT GIVES WHAT IS ASKED. -/
theorem wpAny_inv (I : Array Bool → Act → World → Prop)
    (hstep : ∀ listed a w i, I listed a w → i ∈ Region.ready md ops listed → wpOp P ops Q i (fun a' w' => I (listed.setIfInBounds i true) a' w') a w)
    (hend : ∀ listed a w, I listed a w → Region.ready md ops listed = [] → Q .normal a w) :
    ∀ (fuel : Nat) (listed : Array Bool) (a : Act) (w : World), leftOver ops listed ≤ fuel → I listed a w → wpAny P md ops Q fuel listed a w
  | 0, listed, a, w, hf, hI => by
    have hr : Region.ready md ops listed = [] := by
      cases e : Region.ready md ops listed with
      | nil => rfl
      | cons i rs =>
        obtain ⟨h1, h2⟩ := ready_sub (md := md) (ops := ops) (listed := listed) (i := i) (by rw [e]; exact List.mem_cons_self ..)
        have := leftOver_set h1 h2
        omega
    exact ⟨hr, hend listed a w hI hr⟩
  | fuel + 1, listed, a, w, hf, hI => by
    refine ⟨fun hr => hend listed a w hI hr, fun i hi => ?_⟩
    obtain ⟨h1, h2⟩ := ready_sub hi
    have hlt := leftOver_set h1 h2
    exact wpOp_mono (fun a' w' h' => wpAny_inv I hstep hend fuel _ a' w' (by omega) h') (hstep listed a w i hI hi)
end
end Go.Proofs.YtldgjahpmlafgaaGreat
