/- The order of entries: antisymmetric, transitive; where it is 0: pure. -/
import Derived.Test.YthldelnibgdnaaaGOrdM
import Derived.Test.YthldelnibgdnaaaGOrdC
namespace Go.Proofs.Ythldelnibgdnaaa
/-- a comparison -/
structure PreF {α : Type} (f : α → α → Int) : Prop where
  anti : ∀ x y, f y x = - f x y
  tr : ∀ x y z, f x y ≤ 0 → f y z ≤ 0 → f x z ≤ 0
theorem PreF.lt {α : Type} {f : α → α → Int} (h : PreF f) {x y z : α} (h1 : f x y < 0) (h2 : f y z ≤ 0) : f x z < 0 := by
  rcases Int.lt_or_le (f x z) 0 with h3 | h3
  · exact h3
  · have h4 := h.anti x z
    have h5 := h.tr y z x h2 (by omega)
    have h6 := h.anti x y
    omega
theorem PreF.lt' {α : Type} {f : α → α → Int} (h : PreF f) {x y z : α} (h1 : f x y ≤ 0) (h2 : f y z < 0) : f x z < 0 := by
  rcases Int.lt_or_le (f x z) 0 with h3 | h3
  · exact h3
  · have h4 := h.anti x z
    have h5 := h.tr z x y (by omega) h1
    have h6 := h.anti y z
    omega
theorem PreF.zero {α : Type} {f : α → α → Int} (h : PreF f) {x y z : α} (h1 : f x y = 0) (h2 : f y z = 0) : f x z = 0 := by
  have h3 := h.tr x y z (by omega) (by omega)
  have h4 := h.anti x y
  have h5 := h.anti y z
  have h6 := h.anti x z
  have h7 := h.tr z y x (by omega) (by omega)
  omega
theorem PreF.comb {α : Type} {f g : α → α → Int} (hf : PreF f) (hg : PreF g) : PreF fun x y => if f x y = 0 then g x y else f x y := by
  refine ⟨fun x y => ?_, fun x y z h1 h2 => ?_⟩
  · have h := hf.anti x y
    by_cases e : f x y = 0
    · rw [if_pos e, if_pos (by omega), hg.anti x y]
    · rw [if_neg e, if_neg (by omega), h]
  · by_cases e1 : f x y = 0
    · rw [if_pos e1] at h1
      by_cases e2 : f y z = 0
      · rw [if_pos e2] at h2
        rw [if_pos (hf.zero e1 e2)]
        exact hg.tr x y z h1 h2
      · rw [if_neg e2] at h2
        have h3 := hf.lt' (x := x) (y := y) (z := z) (by omega) (by omega)
        rw [if_neg (by omega)]; omega
    · rw [if_neg e1] at h1
      have h3 : f y z ≤ 0 := by
        by_cases e2 : f y z = 0
        · omega
        · rw [if_neg e2] at h2; exact h2
      have h4 := hf.lt (x := x) (y := y) (z := z) (by omega) h3
      rw [if_neg (by omega)]; omega
theorem PreF.via {α β : Type} {f : α → α → Int} (hf : PreF f) (p : β → α) : PreF fun x y => f (p x) (p y) := ⟨fun _ _ => hf.anti _ _, fun _ _ _ => hf.tr _ _ _⟩
theorem PreF.rev {α : Type} {f : α → α → Int} (hf : PreF f) : PreF fun x y => f y x := ⟨fun _ _ => hf.anti _ _, fun _ _ _ h1 h2 => hf.tr _ _ _ h2 h1⟩
theorem pre_sgI : PreF sgI := by
  refine ⟨fun x y => ?_, fun x y z => ?_⟩
  · unfold sgI; split <;> split <;> (try split) <;> omega
  · unfold sgI; repeat' split
    all_goals omega
theorem pre_truI : PreF truI := by
  refine ⟨fun x y => ?_, fun x y z => ?_⟩
  · cases x <;> cases y <;> simp [truI]
  · cases x <;> cases y <;> cases z <;> simp [truI]
theorem pre_cmp : PreF cmp := by
  refine ⟨fun x y => ?_, fun x y z => ?_⟩
  · unfold cmp; repeat' split
    all_goals omega
  · unfold cmp; repeat' split
    all_goals omega
theorem pre_zeroI {α : Type} : PreF (fun _ _ : α => (0 : Int)) := ⟨fun _ _ => rfl, fun _ _ _ _ _ => Int.le_refl _⟩
theorem pre_lex {α : Type} {f : α → α → Int} (hf : PreF f) : PreF (lexI f) := by
  have anti : ∀ (xs ys : List α), lexI f ys xs = - lexI f xs ys := by
    intro xs
    induction xs with
    | nil => intro ys; cases ys <;> simp [lexI]
    | cons x xs ih =>
      intro ys
      cases ys with
      | nil => simp [lexI]
      | cons y ys =>
        unfold lexI
        have h := hf.anti x y
        by_cases e : f x y = 0
        · rw [if_pos e, if_pos (by omega)]; exact ih ys
        · rw [if_neg e, if_neg (by omega)]; exact h
  refine ⟨anti, ?_⟩
  intro xs
  induction xs with
  | nil => intro ys zs h1 h2; cases zs <;> simp [lexI]
  | cons x xs ih =>
    intro ys zs h1 h2
    cases ys with
    | nil => simp [lexI] at h1
    | cons y ys =>
      cases zs with
      | nil => simp [lexI] at h2
      | cons z zs =>
        unfold lexI at h1 h2 ⊢
        by_cases e1 : f x y = 0
        · rw [if_pos e1] at h1
          by_cases e2 : f y z = 0
          · rw [if_pos e2] at h2
            rw [if_pos (hf.zero e1 e2)]
            exact ih ys zs h1 h2
          · rw [if_neg e2] at h2
            have h3 := hf.lt' (x := x) (y := y) (z := z) (by omega) (by omega)
            rw [if_neg (by omega)]; omega
        · rw [if_neg e1] at h1
          have h3 : f y z ≤ 0 := by
            by_cases e2 : f y z = 0
            · omega
            · rw [if_neg e2] at h2; exact h2
          have h4 := hf.lt (x := x) (y := y) (z := z) (by omega) h3
          rw [if_neg (by omega)]; omega
theorem fst_cons (a : Int) (l : List Int) : fstNZ (a :: l) = if a = 0 then fstNZ l else a := rfl
theorem pre_mat : PreF matI := by
  have h : matI = fun x y => if truI x.pres y.pres = 0 then (if cmp x.val y.val = 0 then (if cmp x.mask y.mask = 0 then (if sgI x.pre y.pre = 0 then (if cmp x.high y.high = 0 then 0 else cmp x.high y.high) else sgI x.pre y.pre) else cmp x.mask y.mask) else cmp x.val y.val) else truI x.pres y.pres := by
    funext x y
    rw [mat_fst]; rfl
  rw [h]
  exact (pre_truI.via MatchD.pres).comb ((pre_cmp.via MatchD.val).comb ((pre_cmp.via MatchD.mask).comb ((pre_sgI.via MatchD.pre).comb ((pre_cmp.via MatchD.high).comb pre_zeroI))))
theorem ent_eq (a b : EntryD) : entI a b = if sgI a.table b.table = 0 then (if sgI b.prio a.prio = 0 then (if lexI matI a.ms b.ms = 0 then (if sgI a.action b.action = 0 then lexI cmp a.args b.args else sgI a.action b.action) else lexI matI a.ms b.ms) else sgI b.prio a.prio) else sgI a.table b.table := by
  unfold entI entL
  simp only [fstNZ]
  by_cases h0 : sgI a.table b.table = 0
  · by_cases h1 : sgI b.prio a.prio = 0
    · by_cases h2 : lexI matI a.ms b.ms = 0
      · by_cases h3 : sgI a.action b.action = 0
        · simp [h0, h1, h2, h3]
        · simp [h0, h1, h2, h3]
      · simp [h0, h1, h2]
    · simp [h0, h1]
  · simp [h0]
theorem pre_ent : PreF entI := by
  have h : entI = fun a b => if sgI a.table b.table = 0 then (if sgI b.prio a.prio = 0 then (if lexI matI a.ms b.ms = 0 then (if sgI a.action b.action = 0 then lexI cmp a.args b.args else sgI a.action b.action) else lexI matI a.ms b.ms) else sgI b.prio a.prio) else sgI a.table b.table := by
    funext a b; exact ent_eq a b
  rw [h]
  exact (pre_sgI.via EntryD.table).comb (((pre_sgI.rev).via EntryD.prio).comb (((pre_lex pre_mat).via EntryD.ms).comb ((pre_sgI.via EntryD.action).comb ((pre_lex pre_cmp).via EntryD.args))))
theorem matI_0 (x y : MatchD) : matI x y = 0 ↔ x = y := by
  constructor
  · intro h
    rw [mat_fst] at h
    simp only [fst_cons] at h
    have h0 : truI x.pres y.pres = 0 := by
      by_cases e : truI x.pres y.pres = 0
      · exact e
      · rw [if_neg e] at h; exact h
    rw [if_pos h0] at h
    have h1 : cmp x.val y.val = 0 := by
      by_cases e : cmp x.val y.val = 0
      · exact e
      · rw [if_neg e] at h; exact h
    rw [if_pos h1] at h
    have h2 : cmp x.mask y.mask = 0 := by
      by_cases e : cmp x.mask y.mask = 0
      · exact e
      · rw [if_neg e] at h; exact h
    rw [if_pos h2] at h
    have h3 : sgI x.pre y.pre = 0 := by
      by_cases e : sgI x.pre y.pre = 0
      · exact e
      · rw [if_neg e] at h; exact h
    rw [if_pos h3] at h
    have h4 : cmp x.high y.high = 0 := by
      by_cases e : cmp x.high y.high = 0
      · exact e
      · rw [if_neg e] at h; exact h
    cases x; cases y
    simp only [tru0, cmp0, sgI0] at h0 h1 h2 h3 h4
    subst h0 h1 h2 h3 h4
    rfl
  · rintro rfl; exact mat_self x
theorem lex0 {α : Type} {f : α → α → Int} (hf : ∀ x y, f x y = 0 ↔ x = y) : ∀ (xs ys : List α), lexI f xs ys = 0 ↔ xs = ys
  | [], [] => by simp [lexI]
  | [], _ :: _ => by simp [lexI]
  | _ :: _, [] => by simp [lexI]
  | x :: xs, y :: ys => by
    unfold lexI
    by_cases e : f x y = 0
    · rw [if_pos e, lex0 hf xs ys]
      have := (hf x y).1 e
      subst this
      simp
    · rw [if_neg e]
      constructor
      · intro h; exact absurd h e
      · intro h
        injection h with h1 _
        exact absurd ((hf x y).2 h1) e
/-- all the fields are equal -/
def sameE (a b : EntryD) : Prop := (a.table = b.table ∧ a.prio = b.prio ∧ a.ms = b.ms) ∧ a.action = b.action ∧ a.args = b.args
theorem ent0 (a b : EntryD) : entI a b = 0 ↔ sameE a b := by
  rw [ent_eq]
  unfold sameE
  constructor
  · intro h
    have h0 : sgI a.table b.table = 0 := by
      by_cases e : sgI a.table b.table = 0
      · exact e
      · rw [if_neg e] at h; exact h
    rw [if_pos h0] at h
    have h1 : sgI b.prio a.prio = 0 := by
      by_cases e : sgI b.prio a.prio = 0
      · exact e
      · rw [if_neg e] at h; exact h
    rw [if_pos h1] at h
    have h2 : lexI matI a.ms b.ms = 0 := by
      by_cases e : lexI matI a.ms b.ms = 0
      · exact e
      · rw [if_neg e] at h; exact h
    rw [if_pos h2] at h
    have h3 : sgI a.action b.action = 0 := by
      by_cases e : sgI a.action b.action = 0
      · exact e
      · rw [if_neg e] at h; exact h
    rw [if_pos h3] at h
    exact ⟨⟨(sgI0 _ _).1 h0, ((sgI0 _ _).1 h1).symm, (lex0 matI_0 _ _).1 h2⟩, (sgI0 _ _).1 h3, (lex0 cmp0 _ _).1 h⟩
  · rintro ⟨⟨h0, h1, h2⟩, h3, h4⟩
    rw [if_pos ((sgI0 _ _).2 h0), if_pos ((sgI0 _ _).2 h1.symm), if_pos ((lex0 matI_0 _ _).2 h2), if_pos ((sgI0 _ _).2 h3)]
    exact (lex0 cmp0 _ _).2 h4
end Go.Proofs.Ythldelnibgdnaaa
