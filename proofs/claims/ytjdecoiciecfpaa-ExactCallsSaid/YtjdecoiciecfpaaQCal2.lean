/- Layer 11: the reference's Put beside the program's index. -/
import Derived.Test.YtjdecoiciecfpaaQCal
import Derived.Test.YtjdecoiciecfpaaQRef2
namespace Go.Proofs.Ytjdecoiciecfpaa
open Go.RowKit Go.Maps Go.Sort
theorem putY {w W : World} {X Y k n : Nat} {s t : List Pt × (Pt → Int)} (h : JC w W X Y k n s t) (hn : n < 100000) (p : Pt) (id : Int) : Calls Try.prog 32 #[.pointer (some ⟨Y, 0, none⟩), ptV p, .int .i64 id] W fun e w' => e = .returned (.bool (decide (p ∉ t.1))) ∧ JC w w' X Y k (n + 1) s (stepP t p id) ∧ Kps W w' X Y := by
  obtain ⟨A, l, cap, r0⟩ := h.r
  have hl := h.l
  refine (qr_Put r0 (by have := r0.len; omega) p id).mono ?_
  rintro e w2 (⟨hp, rfl, hb⟩ | ⟨hp, rfl, ⟨A', cap', hR⟩, hf⟩)
  · refine ⟨by rw [decide_eq_false fun h => h hp], ?_, Kps.of_below hb⟩
    unfold stepP
    rw [if_pos hp]
    exact (h.below hb).mono (Nat.le_refl _) (Nat.le_succ _)
  · refine ⟨by rw [decide_eq_true hp], ?_, kps_frX hf⟩
    unfold stepP
    rw [if_neg hp]
    exact h.frX hf ⟨A', _, cap', hR⟩ (by show (putL p t.1).length ≤ _; rw [putL_len]; omega)
end Go.Proofs.Ytjdecoiciecfpaa
