/- The law's bent: what it is made of. -/
import Derived.Test.YthldelnibgdnaaaGEntP
import Derived.Test.YthldelnibgdnaaaNLast
import Derived.Test.YthldelnibgdnaaaQApp
namespace Go.Proofs.Ythldelnibgdnaaa
open Go.RowKit
set_option maxRecDepth 100000 in
theorem info_matchB : (Try.prog.info? 75).map (fun i => (i.zero, i.size, i.bytes)) = some (some (.agg #[.bool false, .int .u64 0, .int .u64 0, .int .u64 0, .int .u64 0, .int .i64 0, .int .u64 0, .int .u64 0]), 8, 64) := by kernel_rfl
set_option maxRecDepth 100000 in
theorem info_valB : (Try.prog.info? 29).map (fun i => (i.zero, i.size, i.bytes)) = some (some (.agg #[.int .u64 0, .int .u64 0]), 2, 16) := by kernel_rfl
theorem info_partsB {P : Program} {t : TypeId} {z : Option Value} {a b : Nat} (h : (P.info? t).map (fun i => (i.zero, i.size, i.bytes)) = some (z, a, b)) : ∃ i, P.info? t = some i ∧ i.zero = z ∧ i.size = a ∧ i.bytes = b := by
  obtain ⟨i, h1, h2⟩ := Option.map_eq_some_iff.1 h
  simp only [Prod.mk.injEq] at h2
  exact ⟨i, h1, h2.1, h2.2.1, h2.2.2⟩
theorem own_shapeB {w : World} {base : Nat} {e : TypeId} {sz : Nat} {v : Value} {n : Nat} {xs : List Value} (h : w.ownsRow base e sz v n xs) : ∃ A c, v = .slice A n c ∧ (0 < n → ∃ g, A = some ⟨g, 0, none⟩) ∧ n ≤ c ∧ c ≤ maxLen := by
  rcases h.2 with ⟨rfl, rfl⟩ | ⟨g, cap, cur, rfl, _, _, h1, h2, _⟩
  · exact ⟨none, 0, rfl, fun h => absurd h (by omega), Nat.le_refl _, Nat.zero_le _⟩
  · exact ⟨_, _, rfl, fun _ => ⟨g, rfl⟩, h1, h2⟩
/-- rows of other types lie in other blocks -/
theorem own_other {w : World} {b1 b2 : Nat} {e1 e2 : TypeId} {s1 s2 : Nat} {v1 v2 : Value} {n1 n2 : Nat} {x1 x2 : List Value} (h1 : w.ownsRow b1 e1 s1 v1 n1 x1) (h2 : w.ownsRow b2 e2 s2 v2 n2 x2) (hne : e1 ≠ e2) : v1.ownBlock = none ∨ v1.ownBlock ≠ v2.ownBlock := by
  rcases h1.2 with ⟨rfl, _⟩ | ⟨g, cap, cur, rfl, _, hh, _⟩
  · exact .inl rfl
  · rcases h2.2 with ⟨rfl, _⟩ | ⟨g', cap', cur', rfl, _, hh', _⟩
    · exact .inr (by simp [Value.ownBlock])
    · refine .inr fun e => ?_
      simp only [Value.ownBlock, Option.some.injEq] at e
      subst e
      rw [hh] at hh'
      injection hh' with hh'
      injection hh' with _ h3 _
      exact hne h3
theorem getD_replB (k i : Nat) : (Array.replicate k false).getD i false = false := by
  rw [Array.getD_eq_getD_getElem?, Array.getElem?_replicate]
  split <;> rfl
theorem ready_allB {md : Region.Mode} {ops : Array Oper} {listed : Array Bool} (hchk : (List.range ops.size).all (fun i => ((ops[i]?).map fun o => o.after.all fun e => !Region.binds md e || decide (e.on < i)).getD true) = true)
    (hls : listed.size = ops.size) (hr : Region.ready md ops listed = []) : ∀ i, i < ops.size → listed.getD i false = true := by
  intro i
  induction i using Nat.strongRecOn with
  | ind i ih =>
    intro hi
    cases hl : listed.getD i true with
    | true =>
      rw [Array.getD_eq_getD_getElem?] at hl ⊢
      rw [Array.getElem?_eq_getElem (by omega)] at hl ⊢
      exact hl
    | false =>
      exfalso
      have hmem : i ∈ Region.ready md ops listed := by
        unfold Region.ready
        refine List.mem_filter.2 ⟨List.mem_range.2 hi, ?_⟩
        rw [Bool.and_eq_true]
        refine ⟨by rw [hl]; rfl, ?_⟩
        rw [Array.getElem?_eq_getElem hi]
        simp only [Option.map_some, Option.getD_some, Array.all_eq_true']
        intro e he
        have h1 := List.all_eq_true.1 hchk i (List.mem_range.2 hi)
        rw [Array.getElem?_eq_getElem hi] at h1
        simp only [Option.map_some, Option.getD_some, Array.all_eq_true'] at h1
        have h2 := h1 e he
        cases hb : Region.binds md e
        · simp
        · rw [hb] at h2
          have h3 : e.on < i := by simpa using h2
          rw [ih e.on h3 (by omega)]
          simp
      rw [hr] at hmem
      cases hmem
theorem updv_ne {v : Nat → Value} {i j : Nat} {u : Value} (h : j ≠ i) : updv v i u j = v j := by rw [updv, if_neg h]
structure BrI (w : World) (t p a : Int) (V1 V2 : Value) (x n m : Nat) (xs ys : List Value) (listed : Array Bool) (W : World) (v : Nat → Value) : Prop where
  size : listed.size = 12
  bl : Below w.heap.size w W
  sz : w.heap.size + 3 ≤ W.heap.size
  be : W.heap[w.heap.size]? = some (.cells #[.int .i64 t, if listed.getD 9 false then v 15 else V1, .int .i64 p, .int .i64 a, if listed.getD 11 false then v 19 else V2] 26 (0, 0))
  bv : W.heap[w.heap.size + 1]? = some (.cells #[.int .u64 (hi x), .int .u64 (lo x)] 29 (0, 0))
  br : W.heap[w.heap.size + 2]? = some (.cells #[.int .i64 0, .slice none 0 0, .int .i64 0, .int .i64 0, .slice none 0 0] 26 (0, 0))
  k1 : listed.getD 1 false = true → v 13 = .pointer (some ⟨w.heap.size, 1, none⟩)
  k2 : listed.getD 2 false = true → v 14 = V1
  k5 : listed.getD 5 false = true → v 17 = .pointer (some ⟨w.heap.size, 4, none⟩)
  k6 : listed.getD 6 false = true → v 18 = V2
  k8 : listed.getD 8 false = true → v 20 = .pointer (some ⟨w.heap.size, 1, none⟩)
  k10 : listed.getD 10 false = true → v 21 = .pointer (some ⟨w.heap.size, 4, none⟩)
  r0 : listed.getD 0 false = true → listed.getD 3 false = false → W.ownsRow (w.heap.size + 3) 75 8 (v 12) 0 []
  r4 : listed.getD 4 false = true → listed.getD 7 false = false → W.ownsRow (w.heap.size + 3) 29 2 (v 16) 0 []
  r3 : listed.getD 3 false = true → W.ownsRow (w.heap.size + 3) 75 8 (v 15) n xs
  r7 : listed.getD 7 false = true → W.ownsRow (w.heap.size + 3) 29 2 (v 19) m ys
  c3 : listed.getD 3 false = true → listed.getD 2 false = true
  c7 : listed.getD 7 false = true → listed.getD 6 false = true
  c9 : listed.getD 9 false = true → listed.getD 3 false = true
  c11 : listed.getD 11 false = true → listed.getD 7 false = true
theorem BrI.begun {w : World} {t p a : Int} {V1 V2 : Value} {x n m : Nat} {xs ys : List Value} {v : Nat → Value} {W0 : World} (bl : Below w.heap.size w W0) (sz : w.heap.size + 3 ≤ W0.heap.size) (be : W0.heap[w.heap.size]? = some (.cells #[.int .i64 t, V1, .int .i64 p, .int .i64 a, V2] 26 (0, 0))) (bv : W0.heap[w.heap.size + 1]? = some (.cells #[.int .u64 (hi x), .int .u64 (lo x)] 29 (0, 0))) (br : W0.heap[w.heap.size + 2]? = some (.cells #[.int .i64 0, .slice none 0 0, .int .i64 0, .int .i64 0, .slice none 0 0] 26 (0, 0))) : BrI w t p a V1 V2 x n m xs ys (Array.replicate 12 false) W0.drew v := by
  refine ⟨by simp, bl.drew, sz, ?_, bv, br, ?_, ?_, ?_, ?_, ?_, ?_, ?_, ?_, ?_, ?_, ?_, ?_, ?_, ?_⟩
  · rw [getD_replB, getD_replB]; exact be
  all_goals (intro h; rw [getD_replB] at h; cases h)
theorem BrI.c1 {w : World} {t p a : Int} {V1 V2 : Value} {x n m : Nat} {xs ys : List Value} {listed : Array Bool} {W : World} {v : Nat → Value} (h : BrI w t p a V1 V2 x n m xs ys listed W v) : BrI w t p a V1 V2 x n m xs ys (listed.setIfInBounds 1 true) W (updv v 13 (.pointer (some ⟨w.heap.size, 1, none⟩))) := by
  have g : ∀ j, j ≠ 1 → (listed.setIfInBounds 1 true).getD j false = listed.getD j false := fun j hj => by rw [getD_setN (by rw [h.size]; omega), if_neg (Ne.symm hj)]
  have gt : (listed.setIfInBounds 1 true).getD 1 false = true := by rw [getD_setN (by rw [h.size]; omega), if_pos rfl]
  have sz : (listed.setIfInBounds 1 true).size = 12 := by rw [Array.size_setIfInBounds]; exact h.size
  refine ⟨sz, h.bl, h.sz, ?_, h.bv, h.br, ?_, ?_, ?_, ?_, ?_, ?_, ?_, ?_, ?_, ?_, ?_, ?_, ?_, ?_⟩
  · rw [g 9 (by decide), g 11 (by decide), updv_ne (v := v) (show (15 : Nat) ≠ 13 by decide), updv_ne (v := v) (show (19 : Nat) ≠ 13 by decide)]; exact h.be
  · intro _; rw [updv, if_pos rfl]
  · intro h1; rw [g 2 (by decide)] at h1; rw [updv, if_neg (by decide)]; exact  (h.k2 h1)
  · intro h1; rw [g 5 (by decide)] at h1; rw [updv, if_neg (by decide)]; exact  (h.k5 h1)
  · intro h1; rw [g 6 (by decide)] at h1; rw [updv, if_neg (by decide)]; exact  (h.k6 h1)
  · intro h1; rw [g 8 (by decide)] at h1; rw [updv, if_neg (by decide)]; exact  (h.k8 h1)
  · intro h1; rw [g 10 (by decide)] at h1; rw [updv, if_neg (by decide)]; exact  (h.k10 h1)
  · intro h1 h2; rw [g 0 (by decide)] at h1; rw [g 3 (by decide)] at h2; rw [updv, if_neg (by decide)]; exact  (h.r0 h1 h2)
  · intro h1 h2; rw [g 4 (by decide)] at h1; rw [g 7 (by decide)] at h2; rw [updv, if_neg (by decide)]; exact  (h.r4 h1 h2)
  · intro h1; rw [g 3 (by decide)] at h1; rw [updv, if_neg (by decide)]; exact  (h.r3 h1)
  · intro h1; rw [g 7 (by decide)] at h1; rw [updv, if_neg (by decide)]; exact  (h.r7 h1)
  · intro h1; rw [g 3 (by decide)] at h1; rw [g 2 (by decide)]; exact h.c3 h1
  · intro h1; rw [g 7 (by decide)] at h1; rw [g 6 (by decide)]; exact h.c7 h1
  · intro h1; rw [g 9 (by decide)] at h1; rw [g 3 (by decide)]; exact h.c9 h1
  · intro h1; rw [g 11 (by decide)] at h1; rw [g 7 (by decide)]; exact h.c11 h1
theorem BrI.c2 {w : World} {t p a : Int} {V1 V2 : Value} {x n m : Nat} {xs ys : List Value} {listed : Array Bool} {W : World} {v : Nat → Value} (h : BrI w t p a V1 V2 x n m xs ys listed W v) : BrI w t p a V1 V2 x n m xs ys (listed.setIfInBounds 2 true) W (updv v 14 (V1)) := by
  have g : ∀ j, j ≠ 2 → (listed.setIfInBounds 2 true).getD j false = listed.getD j false := fun j hj => by rw [getD_setN (by rw [h.size]; omega), if_neg (Ne.symm hj)]
  have gt : (listed.setIfInBounds 2 true).getD 2 false = true := by rw [getD_setN (by rw [h.size]; omega), if_pos rfl]
  have sz : (listed.setIfInBounds 2 true).size = 12 := by rw [Array.size_setIfInBounds]; exact h.size
  refine ⟨sz, h.bl, h.sz, ?_, h.bv, h.br, ?_, ?_, ?_, ?_, ?_, ?_, ?_, ?_, ?_, ?_, ?_, ?_, ?_, ?_⟩
  · rw [g 9 (by decide), g 11 (by decide), updv_ne (v := v) (show (15 : Nat) ≠ 14 by decide), updv_ne (v := v) (show (19 : Nat) ≠ 14 by decide)]; exact h.be
  · intro h1; rw [g 1 (by decide)] at h1; rw [updv, if_neg (by decide)]; exact  (h.k1 h1)
  · intro _; rw [updv, if_pos rfl]
  · intro h1; rw [g 5 (by decide)] at h1; rw [updv, if_neg (by decide)]; exact  (h.k5 h1)
  · intro h1; rw [g 6 (by decide)] at h1; rw [updv, if_neg (by decide)]; exact  (h.k6 h1)
  · intro h1; rw [g 8 (by decide)] at h1; rw [updv, if_neg (by decide)]; exact  (h.k8 h1)
  · intro h1; rw [g 10 (by decide)] at h1; rw [updv, if_neg (by decide)]; exact  (h.k10 h1)
  · intro h1 h2; rw [g 0 (by decide)] at h1; rw [g 3 (by decide)] at h2; rw [updv, if_neg (by decide)]; exact  (h.r0 h1 h2)
  · intro h1 h2; rw [g 4 (by decide)] at h1; rw [g 7 (by decide)] at h2; rw [updv, if_neg (by decide)]; exact  (h.r4 h1 h2)
  · intro h1; rw [g 3 (by decide)] at h1; rw [updv, if_neg (by decide)]; exact  (h.r3 h1)
  · intro h1; rw [g 7 (by decide)] at h1; rw [updv, if_neg (by decide)]; exact  (h.r7 h1)
  · intro h1; rw [g 3 (by decide)] at h1; exact gt
  · intro h1; rw [g 7 (by decide)] at h1; rw [g 6 (by decide)]; exact h.c7 h1
  · intro h1; rw [g 9 (by decide)] at h1; rw [g 3 (by decide)]; exact h.c9 h1
  · intro h1; rw [g 11 (by decide)] at h1; rw [g 7 (by decide)]; exact h.c11 h1
theorem BrI.c5 {w : World} {t p a : Int} {V1 V2 : Value} {x n m : Nat} {xs ys : List Value} {listed : Array Bool} {W : World} {v : Nat → Value} (h : BrI w t p a V1 V2 x n m xs ys listed W v) : BrI w t p a V1 V2 x n m xs ys (listed.setIfInBounds 5 true) W (updv v 17 (.pointer (some ⟨w.heap.size, 4, none⟩))) := by
  have g : ∀ j, j ≠ 5 → (listed.setIfInBounds 5 true).getD j false = listed.getD j false := fun j hj => by rw [getD_setN (by rw [h.size]; omega), if_neg (Ne.symm hj)]
  have gt : (listed.setIfInBounds 5 true).getD 5 false = true := by rw [getD_setN (by rw [h.size]; omega), if_pos rfl]
  have sz : (listed.setIfInBounds 5 true).size = 12 := by rw [Array.size_setIfInBounds]; exact h.size
  refine ⟨sz, h.bl, h.sz, ?_, h.bv, h.br, ?_, ?_, ?_, ?_, ?_, ?_, ?_, ?_, ?_, ?_, ?_, ?_, ?_, ?_⟩
  · rw [g 9 (by decide), g 11 (by decide), updv_ne (v := v) (show (15 : Nat) ≠ 17 by decide), updv_ne (v := v) (show (19 : Nat) ≠ 17 by decide)]; exact h.be
  · intro h1; rw [g 1 (by decide)] at h1; rw [updv, if_neg (by decide)]; exact  (h.k1 h1)
  · intro h1; rw [g 2 (by decide)] at h1; rw [updv, if_neg (by decide)]; exact  (h.k2 h1)
  · intro _; rw [updv, if_pos rfl]
  · intro h1; rw [g 6 (by decide)] at h1; rw [updv, if_neg (by decide)]; exact  (h.k6 h1)
  · intro h1; rw [g 8 (by decide)] at h1; rw [updv, if_neg (by decide)]; exact  (h.k8 h1)
  · intro h1; rw [g 10 (by decide)] at h1; rw [updv, if_neg (by decide)]; exact  (h.k10 h1)
  · intro h1 h2; rw [g 0 (by decide)] at h1; rw [g 3 (by decide)] at h2; rw [updv, if_neg (by decide)]; exact  (h.r0 h1 h2)
  · intro h1 h2; rw [g 4 (by decide)] at h1; rw [g 7 (by decide)] at h2; rw [updv, if_neg (by decide)]; exact  (h.r4 h1 h2)
  · intro h1; rw [g 3 (by decide)] at h1; rw [updv, if_neg (by decide)]; exact  (h.r3 h1)
  · intro h1; rw [g 7 (by decide)] at h1; rw [updv, if_neg (by decide)]; exact  (h.r7 h1)
  · intro h1; rw [g 3 (by decide)] at h1; rw [g 2 (by decide)]; exact h.c3 h1
  · intro h1; rw [g 7 (by decide)] at h1; rw [g 6 (by decide)]; exact h.c7 h1
  · intro h1; rw [g 9 (by decide)] at h1; rw [g 3 (by decide)]; exact h.c9 h1
  · intro h1; rw [g 11 (by decide)] at h1; rw [g 7 (by decide)]; exact h.c11 h1
theorem BrI.c6 {w : World} {t p a : Int} {V1 V2 : Value} {x n m : Nat} {xs ys : List Value} {listed : Array Bool} {W : World} {v : Nat → Value} (h : BrI w t p a V1 V2 x n m xs ys listed W v) : BrI w t p a V1 V2 x n m xs ys (listed.setIfInBounds 6 true) W (updv v 18 (V2)) := by
  have g : ∀ j, j ≠ 6 → (listed.setIfInBounds 6 true).getD j false = listed.getD j false := fun j hj => by rw [getD_setN (by rw [h.size]; omega), if_neg (Ne.symm hj)]
  have gt : (listed.setIfInBounds 6 true).getD 6 false = true := by rw [getD_setN (by rw [h.size]; omega), if_pos rfl]
  have sz : (listed.setIfInBounds 6 true).size = 12 := by rw [Array.size_setIfInBounds]; exact h.size
  refine ⟨sz, h.bl, h.sz, ?_, h.bv, h.br, ?_, ?_, ?_, ?_, ?_, ?_, ?_, ?_, ?_, ?_, ?_, ?_, ?_, ?_⟩
  · rw [g 9 (by decide), g 11 (by decide), updv_ne (v := v) (show (15 : Nat) ≠ 18 by decide), updv_ne (v := v) (show (19 : Nat) ≠ 18 by decide)]; exact h.be
  · intro h1; rw [g 1 (by decide)] at h1; rw [updv, if_neg (by decide)]; exact  (h.k1 h1)
  · intro h1; rw [g 2 (by decide)] at h1; rw [updv, if_neg (by decide)]; exact  (h.k2 h1)
  · intro h1; rw [g 5 (by decide)] at h1; rw [updv, if_neg (by decide)]; exact  (h.k5 h1)
  · intro _; rw [updv, if_pos rfl]
  · intro h1; rw [g 8 (by decide)] at h1; rw [updv, if_neg (by decide)]; exact  (h.k8 h1)
  · intro h1; rw [g 10 (by decide)] at h1; rw [updv, if_neg (by decide)]; exact  (h.k10 h1)
  · intro h1 h2; rw [g 0 (by decide)] at h1; rw [g 3 (by decide)] at h2; rw [updv, if_neg (by decide)]; exact  (h.r0 h1 h2)
  · intro h1 h2; rw [g 4 (by decide)] at h1; rw [g 7 (by decide)] at h2; rw [updv, if_neg (by decide)]; exact  (h.r4 h1 h2)
  · intro h1; rw [g 3 (by decide)] at h1; rw [updv, if_neg (by decide)]; exact  (h.r3 h1)
  · intro h1; rw [g 7 (by decide)] at h1; rw [updv, if_neg (by decide)]; exact  (h.r7 h1)
  · intro h1; rw [g 3 (by decide)] at h1; rw [g 2 (by decide)]; exact h.c3 h1
  · intro h1; rw [g 7 (by decide)] at h1; exact gt
  · intro h1; rw [g 9 (by decide)] at h1; rw [g 3 (by decide)]; exact h.c9 h1
  · intro h1; rw [g 11 (by decide)] at h1; rw [g 7 (by decide)]; exact h.c11 h1
theorem BrI.c8 {w : World} {t p a : Int} {V1 V2 : Value} {x n m : Nat} {xs ys : List Value} {listed : Array Bool} {W : World} {v : Nat → Value} (h : BrI w t p a V1 V2 x n m xs ys listed W v) : BrI w t p a V1 V2 x n m xs ys (listed.setIfInBounds 8 true) W (updv v 20 (.pointer (some ⟨w.heap.size, 1, none⟩))) := by
  have g : ∀ j, j ≠ 8 → (listed.setIfInBounds 8 true).getD j false = listed.getD j false := fun j hj => by rw [getD_setN (by rw [h.size]; omega), if_neg (Ne.symm hj)]
  have gt : (listed.setIfInBounds 8 true).getD 8 false = true := by rw [getD_setN (by rw [h.size]; omega), if_pos rfl]
  have sz : (listed.setIfInBounds 8 true).size = 12 := by rw [Array.size_setIfInBounds]; exact h.size
  refine ⟨sz, h.bl, h.sz, ?_, h.bv, h.br, ?_, ?_, ?_, ?_, ?_, ?_, ?_, ?_, ?_, ?_, ?_, ?_, ?_, ?_⟩
  · rw [g 9 (by decide), g 11 (by decide), updv_ne (v := v) (show (15 : Nat) ≠ 20 by decide), updv_ne (v := v) (show (19 : Nat) ≠ 20 by decide)]; exact h.be
  · intro h1; rw [g 1 (by decide)] at h1; rw [updv, if_neg (by decide)]; exact  (h.k1 h1)
  · intro h1; rw [g 2 (by decide)] at h1; rw [updv, if_neg (by decide)]; exact  (h.k2 h1)
  · intro h1; rw [g 5 (by decide)] at h1; rw [updv, if_neg (by decide)]; exact  (h.k5 h1)
  · intro h1; rw [g 6 (by decide)] at h1; rw [updv, if_neg (by decide)]; exact  (h.k6 h1)
  · intro _; rw [updv, if_pos rfl]
  · intro h1; rw [g 10 (by decide)] at h1; rw [updv, if_neg (by decide)]; exact  (h.k10 h1)
  · intro h1 h2; rw [g 0 (by decide)] at h1; rw [g 3 (by decide)] at h2; rw [updv, if_neg (by decide)]; exact  (h.r0 h1 h2)
  · intro h1 h2; rw [g 4 (by decide)] at h1; rw [g 7 (by decide)] at h2; rw [updv, if_neg (by decide)]; exact  (h.r4 h1 h2)
  · intro h1; rw [g 3 (by decide)] at h1; rw [updv, if_neg (by decide)]; exact  (h.r3 h1)
  · intro h1; rw [g 7 (by decide)] at h1; rw [updv, if_neg (by decide)]; exact  (h.r7 h1)
  · intro h1; rw [g 3 (by decide)] at h1; rw [g 2 (by decide)]; exact h.c3 h1
  · intro h1; rw [g 7 (by decide)] at h1; rw [g 6 (by decide)]; exact h.c7 h1
  · intro h1; rw [g 9 (by decide)] at h1; rw [g 3 (by decide)]; exact h.c9 h1
  · intro h1; rw [g 11 (by decide)] at h1; rw [g 7 (by decide)]; exact h.c11 h1
theorem BrI.c10 {w : World} {t p a : Int} {V1 V2 : Value} {x n m : Nat} {xs ys : List Value} {listed : Array Bool} {W : World} {v : Nat → Value} (h : BrI w t p a V1 V2 x n m xs ys listed W v) : BrI w t p a V1 V2 x n m xs ys (listed.setIfInBounds 10 true) W (updv v 21 (.pointer (some ⟨w.heap.size, 4, none⟩))) := by
  have g : ∀ j, j ≠ 10 → (listed.setIfInBounds 10 true).getD j false = listed.getD j false := fun j hj => by rw [getD_setN (by rw [h.size]; omega), if_neg (Ne.symm hj)]
  have gt : (listed.setIfInBounds 10 true).getD 10 false = true := by rw [getD_setN (by rw [h.size]; omega), if_pos rfl]
  have sz : (listed.setIfInBounds 10 true).size = 12 := by rw [Array.size_setIfInBounds]; exact h.size
  refine ⟨sz, h.bl, h.sz, ?_, h.bv, h.br, ?_, ?_, ?_, ?_, ?_, ?_, ?_, ?_, ?_, ?_, ?_, ?_, ?_, ?_⟩
  · rw [g 9 (by decide), g 11 (by decide), updv_ne (v := v) (show (15 : Nat) ≠ 21 by decide), updv_ne (v := v) (show (19 : Nat) ≠ 21 by decide)]; exact h.be
  · intro h1; rw [g 1 (by decide)] at h1; rw [updv, if_neg (by decide)]; exact  (h.k1 h1)
  · intro h1; rw [g 2 (by decide)] at h1; rw [updv, if_neg (by decide)]; exact  (h.k2 h1)
  · intro h1; rw [g 5 (by decide)] at h1; rw [updv, if_neg (by decide)]; exact  (h.k5 h1)
  · intro h1; rw [g 6 (by decide)] at h1; rw [updv, if_neg (by decide)]; exact  (h.k6 h1)
  · intro h1; rw [g 8 (by decide)] at h1; rw [updv, if_neg (by decide)]; exact  (h.k8 h1)
  · intro _; rw [updv, if_pos rfl]
  · intro h1 h2; rw [g 0 (by decide)] at h1; rw [g 3 (by decide)] at h2; rw [updv, if_neg (by decide)]; exact  (h.r0 h1 h2)
  · intro h1 h2; rw [g 4 (by decide)] at h1; rw [g 7 (by decide)] at h2; rw [updv, if_neg (by decide)]; exact  (h.r4 h1 h2)
  · intro h1; rw [g 3 (by decide)] at h1; rw [updv, if_neg (by decide)]; exact  (h.r3 h1)
  · intro h1; rw [g 7 (by decide)] at h1; rw [updv, if_neg (by decide)]; exact  (h.r7 h1)
  · intro h1; rw [g 3 (by decide)] at h1; rw [g 2 (by decide)]; exact h.c3 h1
  · intro h1; rw [g 7 (by decide)] at h1; rw [g 6 (by decide)]; exact h.c7 h1
  · intro h1; rw [g 9 (by decide)] at h1; rw [g 3 (by decide)]; exact h.c9 h1
  · intro h1; rw [g 11 (by decide)] at h1; rw [g 7 (by decide)]; exact h.c11 h1
theorem BrI.a0 {w : World} {t p a : Int} {V1 V2 : Value} {x n m : Nat} {xs ys : List Value} {listed : Array Bool} {W : World} {v : Nat → Value} (h : BrI w t p a V1 V2 x n m xs ys listed W v) : BrI w t p a V1 V2 x n m xs ys (listed.setIfInBounds 0 true) (W.alloc (.cells #[] 75)) (updv v 12 (.slice (some ⟨W.heap.size, 0, none⟩) 0 0)) := by
  have g : ∀ j, j ≠ 0 → (listed.setIfInBounds 0 true).getD j false = listed.getD j false := fun j hj => by rw [getD_setN (by rw [h.size]; omega), if_neg (Ne.symm hj)]
  have gt : (listed.setIfInBounds 0 true).getD 0 false = true := by rw [getD_setN (by rw [h.size]; omega), if_pos rfl]
  have sz : (listed.setIfInBounds 0 true).size = 12 := by rw [Array.size_setIfInBounds]; exact h.size
  have ha : ∀ k, k < W.heap.size → (W.alloc (.cells #[] 75)).heap[k]? = W.heap[k]? := fun k hk => (grown_alloc W _ none).block k hk (by simp)
  have hsz := h.sz
  refine ⟨sz, h.bl.alloc (by omega) _, by simp; omega, ?_, (ha _ (by omega)).trans h.bv, (ha _ (by omega)).trans h.br, ?_, ?_, ?_, ?_, ?_, ?_, ?_, ?_, ?_, ?_, ?_, ?_, ?_, ?_⟩
  · rw [g 9 (by decide), g 11 (by decide), updv_ne (v := v) (show (15 : Nat) ≠ 12 by decide), updv_ne (v := v) (show (19 : Nat) ≠ 12 by decide)]; exact (ha _ (by omega)).trans h.be
  · intro h1; rw [g 1 (by decide)] at h1; rw [updv, if_neg (by decide)]; exact  (h.k1 h1)
  · intro h1; rw [g 2 (by decide)] at h1; rw [updv, if_neg (by decide)]; exact  (h.k2 h1)
  · intro h1; rw [g 5 (by decide)] at h1; rw [updv, if_neg (by decide)]; exact  (h.k5 h1)
  · intro h1; rw [g 6 (by decide)] at h1; rw [updv, if_neg (by decide)]; exact  (h.k6 h1)
  · intro h1; rw [g 8 (by decide)] at h1; rw [updv, if_neg (by decide)]; exact  (h.k8 h1)
  · intro h1; rw [g 10 (by decide)] at h1; rw [updv, if_neg (by decide)]; exact  (h.k10 h1)
  · intro _ _; rw [updv, if_pos rfl]; exact World.ownsRow_made W #[] 0 h.sz (Nat.zero_le _) rfl
  · intro h1 h2; rw [g 4 (by decide)] at h1; rw [g 7 (by decide)] at h2; rw [updv, if_neg (by decide)]; exact (fun r => World.ownsRow.alloc r _) (h.r4 h1 h2)
  · intro h1; rw [g 3 (by decide)] at h1; rw [updv, if_neg (by decide)]; exact (fun r => World.ownsRow.alloc r _) (h.r3 h1)
  · intro h1; rw [g 7 (by decide)] at h1; rw [updv, if_neg (by decide)]; exact (fun r => World.ownsRow.alloc r _) (h.r7 h1)
  · intro h1; rw [g 3 (by decide)] at h1; rw [g 2 (by decide)]; exact h.c3 h1
  · intro h1; rw [g 7 (by decide)] at h1; rw [g 6 (by decide)]; exact h.c7 h1
  · intro h1; rw [g 9 (by decide)] at h1; rw [g 3 (by decide)]; exact h.c9 h1
  · intro h1; rw [g 11 (by decide)] at h1; rw [g 7 (by decide)]; exact h.c11 h1
theorem BrI.a4 {w : World} {t p a : Int} {V1 V2 : Value} {x n m : Nat} {xs ys : List Value} {listed : Array Bool} {W : World} {v : Nat → Value} (h : BrI w t p a V1 V2 x n m xs ys listed W v) : BrI w t p a V1 V2 x n m xs ys (listed.setIfInBounds 4 true) (W.alloc (.cells #[] 29)) (updv v 16 (.slice (some ⟨W.heap.size, 0, none⟩) 0 0)) := by
  have g : ∀ j, j ≠ 4 → (listed.setIfInBounds 4 true).getD j false = listed.getD j false := fun j hj => by rw [getD_setN (by rw [h.size]; omega), if_neg (Ne.symm hj)]
  have gt : (listed.setIfInBounds 4 true).getD 4 false = true := by rw [getD_setN (by rw [h.size]; omega), if_pos rfl]
  have sz : (listed.setIfInBounds 4 true).size = 12 := by rw [Array.size_setIfInBounds]; exact h.size
  have ha : ∀ k, k < W.heap.size → (W.alloc (.cells #[] 29)).heap[k]? = W.heap[k]? := fun k hk => (grown_alloc W _ none).block k hk (by simp)
  have hsz := h.sz
  refine ⟨sz, h.bl.alloc (by omega) _, by simp; omega, ?_, (ha _ (by omega)).trans h.bv, (ha _ (by omega)).trans h.br, ?_, ?_, ?_, ?_, ?_, ?_, ?_, ?_, ?_, ?_, ?_, ?_, ?_, ?_⟩
  · rw [g 9 (by decide), g 11 (by decide), updv_ne (v := v) (show (15 : Nat) ≠ 16 by decide), updv_ne (v := v) (show (19 : Nat) ≠ 16 by decide)]; exact (ha _ (by omega)).trans h.be
  · intro h1; rw [g 1 (by decide)] at h1; rw [updv, if_neg (by decide)]; exact  (h.k1 h1)
  · intro h1; rw [g 2 (by decide)] at h1; rw [updv, if_neg (by decide)]; exact  (h.k2 h1)
  · intro h1; rw [g 5 (by decide)] at h1; rw [updv, if_neg (by decide)]; exact  (h.k5 h1)
  · intro h1; rw [g 6 (by decide)] at h1; rw [updv, if_neg (by decide)]; exact  (h.k6 h1)
  · intro h1; rw [g 8 (by decide)] at h1; rw [updv, if_neg (by decide)]; exact  (h.k8 h1)
  · intro h1; rw [g 10 (by decide)] at h1; rw [updv, if_neg (by decide)]; exact  (h.k10 h1)
  · intro h1 h2; rw [g 0 (by decide)] at h1; rw [g 3 (by decide)] at h2; rw [updv, if_neg (by decide)]; exact (fun r => World.ownsRow.alloc r _) (h.r0 h1 h2)
  · intro _ _; rw [updv, if_pos rfl]; exact World.ownsRow_made W #[] 0 h.sz (Nat.zero_le _) rfl
  · intro h1; rw [g 3 (by decide)] at h1; rw [updv, if_neg (by decide)]; exact (fun r => World.ownsRow.alloc r _) (h.r3 h1)
  · intro h1; rw [g 7 (by decide)] at h1; rw [updv, if_neg (by decide)]; exact (fun r => World.ownsRow.alloc r _) (h.r7 h1)
  · intro h1; rw [g 3 (by decide)] at h1; rw [g 2 (by decide)]; exact h.c3 h1
  · intro h1; rw [g 7 (by decide)] at h1; rw [g 6 (by decide)]; exact h.c7 h1
  · intro h1; rw [g 9 (by decide)] at h1; rw [g 3 (by decide)]; exact h.c9 h1
  · intro h1; rw [g 11 (by decide)] at h1; rw [g 7 (by decide)]; exact h.c11 h1
theorem BrI.p3 {w : World} {t p a : Int} {V1 V2 : Value} {x n m : Nat} {xs ys : List Value} {listed : Array Bool} {W W' : World} {v : Nat → Value} (h : BrI w t p a V1 V2 x n m xs ys listed W v) (hr : W.ownsRow (w.heap.size + 3) 75 8 (v 12) 0 []) {v' : Value} (hO : W'.ownsRow (w.heap.size + 3) 75 8 v' n xs) (hg : W.grownBy W' (v 12).ownBlock) (hl9 : listed.getD 9 false = false) (hc3 : listed.getD 2 false = true) : BrI w t p a V1 V2 x n m xs ys (listed.setIfInBounds 3 true) W' (updv v 15 v') := by
  have g : ∀ j, j ≠ 3 → (listed.setIfInBounds 3 true).getD j false = listed.getD j false := fun j hj => by rw [getD_setN (by rw [h.size]; omega), if_neg (Ne.symm hj)]
  have gt : (listed.setIfInBounds 3 true).getD 3 false = true := by rw [getD_setN (by rw [h.size]; omega), if_pos rfl]
  have sz : (listed.setIfInBounds 3 true).size = 12 := by rw [Array.size_setIfInBounds]; exact h.size
  have hsz := h.sz
  have ha : ∀ k, k < w.heap.size + 3 → W'.heap[k]? = W.heap[k]? := fun k hk => hg.block k (by omega) (fun e => by have := (World.ownsRow.lt hr k e.symm).1; omega)
  refine ⟨sz, ⟨hg.os.trans h.bl.os, hg.tape.trans h.bl.tape, hg.output.trans h.bl.output, Nat.le_trans h.bl.size hg.size, fun k hk => (ha k (by omega)).trans (h.bl.block k hk)⟩, Nat.le_trans h.sz hg.size, ?_, (ha _ (by omega)).trans h.bv, (ha _ (by omega)).trans h.br, ?_, ?_, ?_, ?_, ?_, ?_, ?_, ?_, ?_, ?_, ?_, ?_, ?_, ?_⟩
  · rw [g 9 (by decide), g 11 (by decide)]
    refine (ha _ (by omega)).trans (h.be.trans ?_)
    rw [updv_ne (v := v) (show (19 : Nat) ≠ 15 by decide), hl9]
    rfl
  · intro h1; rw [g 1 (by decide)] at h1; rw [updv, if_neg (by decide)]; exact  (h.k1 h1)
  · intro h1; rw [g 2 (by decide)] at h1; rw [updv, if_neg (by decide)]; exact  (h.k2 h1)
  · intro h1; rw [g 5 (by decide)] at h1; rw [updv, if_neg (by decide)]; exact  (h.k5 h1)
  · intro h1; rw [g 6 (by decide)] at h1; rw [updv, if_neg (by decide)]; exact  (h.k6 h1)
  · intro h1; rw [g 8 (by decide)] at h1; rw [updv, if_neg (by decide)]; exact  (h.k8 h1)
  · intro h1; rw [g 10 (by decide)] at h1; rw [updv, if_neg (by decide)]; exact  (h.k10 h1)
  · intro _ h2; rw [gt] at h2; cases h2
  · intro h1 h2; rw [g 4 (by decide)] at h1; rw [g 7 (by decide)] at h2; rw [updv, if_neg (by decide)]; exact (fun r => World.ownsRow.kept r hg (own_other r hr (by decide))) (h.r4 h1 h2)
  · intro _; rw [updv, if_pos rfl]; exact hO
  · intro h1; rw [g 7 (by decide)] at h1; rw [updv, if_neg (by decide)]; exact (fun r => World.ownsRow.kept r hg (own_other r hr (by decide))) (h.r7 h1)
  · intro _; rw [g 2 (by decide)]; exact hc3
  · intro h1; rw [g 7 (by decide)] at h1; rw [g 6 (by decide)]; exact h.c7 h1
  · intro h1; rw [g 9 (by decide)] at h1; exact gt
  · intro h1; rw [g 11 (by decide)] at h1; rw [g 7 (by decide)]; exact h.c11 h1
theorem BrI.p7 {w : World} {t p a : Int} {V1 V2 : Value} {x n m : Nat} {xs ys : List Value} {listed : Array Bool} {W W' : World} {v : Nat → Value} (h : BrI w t p a V1 V2 x n m xs ys listed W v) (hr : W.ownsRow (w.heap.size + 3) 29 2 (v 16) 0 []) {v' : Value} (hO : W'.ownsRow (w.heap.size + 3) 29 2 v' m ys) (hg : W.grownBy W' (v 16).ownBlock) (hl11 : listed.getD 11 false = false) (hc7 : listed.getD 6 false = true) : BrI w t p a V1 V2 x n m xs ys (listed.setIfInBounds 7 true) W' (updv v 19 v') := by
  have g : ∀ j, j ≠ 7 → (listed.setIfInBounds 7 true).getD j false = listed.getD j false := fun j hj => by rw [getD_setN (by rw [h.size]; omega), if_neg (Ne.symm hj)]
  have gt : (listed.setIfInBounds 7 true).getD 7 false = true := by rw [getD_setN (by rw [h.size]; omega), if_pos rfl]
  have sz : (listed.setIfInBounds 7 true).size = 12 := by rw [Array.size_setIfInBounds]; exact h.size
  have hsz := h.sz
  have ha : ∀ k, k < w.heap.size + 3 → W'.heap[k]? = W.heap[k]? := fun k hk => hg.block k (by omega) (fun e => by have := (World.ownsRow.lt hr k e.symm).1; omega)
  refine ⟨sz, ⟨hg.os.trans h.bl.os, hg.tape.trans h.bl.tape, hg.output.trans h.bl.output, Nat.le_trans h.bl.size hg.size, fun k hk => (ha k (by omega)).trans (h.bl.block k hk)⟩, Nat.le_trans h.sz hg.size, ?_, (ha _ (by omega)).trans h.bv, (ha _ (by omega)).trans h.br, ?_, ?_, ?_, ?_, ?_, ?_, ?_, ?_, ?_, ?_, ?_, ?_, ?_, ?_⟩
  · rw [g 9 (by decide), g 11 (by decide)]
    refine (ha _ (by omega)).trans (h.be.trans ?_)
    rw [updv_ne (v := v) (show (15 : Nat) ≠ 19 by decide), hl11]
    rfl
  · intro h1; rw [g 1 (by decide)] at h1; rw [updv, if_neg (by decide)]; exact  (h.k1 h1)
  · intro h1; rw [g 2 (by decide)] at h1; rw [updv, if_neg (by decide)]; exact  (h.k2 h1)
  · intro h1; rw [g 5 (by decide)] at h1; rw [updv, if_neg (by decide)]; exact  (h.k5 h1)
  · intro h1; rw [g 6 (by decide)] at h1; rw [updv, if_neg (by decide)]; exact  (h.k6 h1)
  · intro h1; rw [g 8 (by decide)] at h1; rw [updv, if_neg (by decide)]; exact  (h.k8 h1)
  · intro h1; rw [g 10 (by decide)] at h1; rw [updv, if_neg (by decide)]; exact  (h.k10 h1)
  · intro h1 h2; rw [g 0 (by decide)] at h1; rw [g 3 (by decide)] at h2; rw [updv, if_neg (by decide)]; exact (fun r => World.ownsRow.kept r hg (own_other r hr (by decide))) (h.r0 h1 h2)
  · intro _ h2; rw [gt] at h2; cases h2
  · intro h1; rw [g 3 (by decide)] at h1; rw [updv, if_neg (by decide)]; exact (fun r => World.ownsRow.kept r hg (own_other r hr (by decide))) (h.r3 h1)
  · intro _; rw [updv, if_pos rfl]; exact hO
  · intro h1; rw [g 3 (by decide)] at h1; rw [g 2 (by decide)]; exact h.c3 h1
  · intro _; rw [g 6 (by decide)]; exact hc7
  · intro h1; rw [g 9 (by decide)] at h1; rw [g 3 (by decide)]; exact h.c9 h1
  · intro h1; rw [g 11 (by decide)] at h1; exact gt
theorem BrI.s9 {w : World} {t p a : Int} {V1 V2 : Value} {x n m : Nat} {xs ys : List Value} {listed : Array Bool} {W : World} {v : Nat → Value} (h : BrI w t p a V1 V2 x n m xs ys listed W v) (hc9 : listed.getD 3 false = true) : BrI w t p a V1 V2 x n m xs ys (listed.setIfInBounds 9 true) (W.setCell ⟨w.heap.size, 1, none⟩ (v 15)) v := by
  have g : ∀ j, j ≠ 9 → (listed.setIfInBounds 9 true).getD j false = listed.getD j false := fun j hj => by rw [getD_setN (by rw [h.size]; omega), if_neg (Ne.symm hj)]
  have gt : (listed.setIfInBounds 9 true).getD 9 false = true := by rw [getD_setN (by rw [h.size]; omega), if_pos rfl]
  have sz : (listed.setIfInBounds 9 true).size = 12 := by rw [Array.size_setIfInBounds]; exact h.size
  have hsz := h.sz
  have hg := grown_set W w.heap.size 1 (v 15)
  have ha : ∀ k, k < W.heap.size → k ≠ w.heap.size → (W.setCell ⟨w.heap.size, 1, none⟩ (v 15)).heap[k]? = W.heap[k]? := fun k hk hne => hg.block k hk (fun e => hne (by injection e))
  refine ⟨sz, ⟨hg.os.trans h.bl.os, hg.tape.trans h.bl.tape, hg.output.trans h.bl.output, Nat.le_trans h.bl.size hg.size, fun k hk => (ha k (by omega) (by omega)).trans (h.bl.block k hk)⟩, Nat.le_trans h.sz hg.size, ?_, (ha _ (by omega) (by omega)).trans h.bv, (ha _ (by omega) (by omega)).trans h.br, ?_, ?_, ?_, ?_, ?_, ?_, ?_, ?_, ?_, ?_, ?_, ?_, ?_, ?_⟩
  · rw [g 11 (by decide), gt]
    exact blk_set h.be 1 (v 15)
  · intro h1; rw [g 1 (by decide)] at h1; exact  (h.k1 h1)
  · intro h1; rw [g 2 (by decide)] at h1; exact  (h.k2 h1)
  · intro h1; rw [g 5 (by decide)] at h1; exact  (h.k5 h1)
  · intro h1; rw [g 6 (by decide)] at h1; exact  (h.k6 h1)
  · intro h1; rw [g 8 (by decide)] at h1; exact  (h.k8 h1)
  · intro h1; rw [g 10 (by decide)] at h1; exact  (h.k10 h1)
  · intro h1 h2; rw [g 0 (by decide)] at h1; rw [g 3 (by decide)] at h2; exact (fun r => World.ownsRow.kept r hg (.inr fun e => by have := (World.ownsRow.lt r _ e).1; omega)) (h.r0 h1 h2)
  · intro h1 h2; rw [g 4 (by decide)] at h1; rw [g 7 (by decide)] at h2; exact (fun r => World.ownsRow.kept r hg (.inr fun e => by have := (World.ownsRow.lt r _ e).1; omega)) (h.r4 h1 h2)
  · intro h1; rw [g 3 (by decide)] at h1; exact (fun r => World.ownsRow.kept r hg (.inr fun e => by have := (World.ownsRow.lt r _ e).1; omega)) (h.r3 h1)
  · intro h1; rw [g 7 (by decide)] at h1; exact (fun r => World.ownsRow.kept r hg (.inr fun e => by have := (World.ownsRow.lt r _ e).1; omega)) (h.r7 h1)
  · intro h1; rw [g 3 (by decide)] at h1; rw [g 2 (by decide)]; exact h.c3 h1
  · intro h1; rw [g 7 (by decide)] at h1; rw [g 6 (by decide)]; exact h.c7 h1
  · intro _; rw [g 3 (by decide)]; exact hc9
  · intro h1; rw [g 11 (by decide)] at h1; rw [g 7 (by decide)]; exact h.c11 h1
theorem BrI.s11 {w : World} {t p a : Int} {V1 V2 : Value} {x n m : Nat} {xs ys : List Value} {listed : Array Bool} {W : World} {v : Nat → Value} (h : BrI w t p a V1 V2 x n m xs ys listed W v) (hc11 : listed.getD 7 false = true) : BrI w t p a V1 V2 x n m xs ys (listed.setIfInBounds 11 true) (W.setCell ⟨w.heap.size, 4, none⟩ (v 19)) v := by
  have g : ∀ j, j ≠ 11 → (listed.setIfInBounds 11 true).getD j false = listed.getD j false := fun j hj => by rw [getD_setN (by rw [h.size]; omega), if_neg (Ne.symm hj)]
  have gt : (listed.setIfInBounds 11 true).getD 11 false = true := by rw [getD_setN (by rw [h.size]; omega), if_pos rfl]
  have sz : (listed.setIfInBounds 11 true).size = 12 := by rw [Array.size_setIfInBounds]; exact h.size
  have hsz := h.sz
  have hg := grown_set W w.heap.size 4 (v 19)
  have ha : ∀ k, k < W.heap.size → k ≠ w.heap.size → (W.setCell ⟨w.heap.size, 4, none⟩ (v 19)).heap[k]? = W.heap[k]? := fun k hk hne => hg.block k hk (fun e => hne (by injection e))
  refine ⟨sz, ⟨hg.os.trans h.bl.os, hg.tape.trans h.bl.tape, hg.output.trans h.bl.output, Nat.le_trans h.bl.size hg.size, fun k hk => (ha k (by omega) (by omega)).trans (h.bl.block k hk)⟩, Nat.le_trans h.sz hg.size, ?_, (ha _ (by omega) (by omega)).trans h.bv, (ha _ (by omega) (by omega)).trans h.br, ?_, ?_, ?_, ?_, ?_, ?_, ?_, ?_, ?_, ?_, ?_, ?_, ?_, ?_⟩
  · rw [g 9 (by decide), gt]
    exact blk_set h.be 4 (v 19)
  · intro h1; rw [g 1 (by decide)] at h1; exact  (h.k1 h1)
  · intro h1; rw [g 2 (by decide)] at h1; exact  (h.k2 h1)
  · intro h1; rw [g 5 (by decide)] at h1; exact  (h.k5 h1)
  · intro h1; rw [g 6 (by decide)] at h1; exact  (h.k6 h1)
  · intro h1; rw [g 8 (by decide)] at h1; exact  (h.k8 h1)
  · intro h1; rw [g 10 (by decide)] at h1; exact  (h.k10 h1)
  · intro h1 h2; rw [g 0 (by decide)] at h1; rw [g 3 (by decide)] at h2; exact (fun r => World.ownsRow.kept r hg (.inr fun e => by have := (World.ownsRow.lt r _ e).1; omega)) (h.r0 h1 h2)
  · intro h1 h2; rw [g 4 (by decide)] at h1; rw [g 7 (by decide)] at h2; exact (fun r => World.ownsRow.kept r hg (.inr fun e => by have := (World.ownsRow.lt r _ e).1; omega)) (h.r4 h1 h2)
  · intro h1; rw [g 3 (by decide)] at h1; exact (fun r => World.ownsRow.kept r hg (.inr fun e => by have := (World.ownsRow.lt r _ e).1; omega)) (h.r3 h1)
  · intro h1; rw [g 7 (by decide)] at h1; exact (fun r => World.ownsRow.kept r hg (.inr fun e => by have := (World.ownsRow.lt r _ e).1; omega)) (h.r7 h1)
  · intro h1; rw [g 3 (by decide)] at h1; rw [g 2 (by decide)]; exact h.c3 h1
  · intro h1; rw [g 7 (by decide)] at h1; rw [g 6 (by decide)]; exact h.c7 h1
  · intro h1; rw [g 9 (by decide)] at h1; rw [g 3 (by decide)]; exact h.c9 h1
  · intro _; rw [g 7 (by decide)]; exact hc11
theorem run_append_noneB {P : Program} {w : World} (t ty : TypeId) (base : Nat) (e : TypeId) (i : TypeInfo) (size : Nat) (ht : P.underlying t = some (.slice e)) (hi : P.info? e = some i)
    (v : Value) (n : Nat) (xs : List Value) (c : Nat) (hown : w.ownsRow base e size v n xs) : (Builtin.append_ #[t, t] ty #[v, .slice none 0 c]).run P w = .ok v w := by
  rcases hown.2 with ⟨rfl, rfl⟩ | ⟨g, cap, cur, rfl, hbg, hg, hnc, hcm, hcs, htake⟩
  · simp [Builtin.append_, run_underlying ht, sizeOf, typeInfo, hi, Builtin.lenOf, Builtin.firstCells]
  · simp [Builtin.append_, run_underlying ht, sizeOf, typeInfo, hi, Builtin.lenOf, Builtin.firstCells, hnc, storeCells]
/-- what is appended: a slice that can be read, or nil -/
def SrcB (w : World) (A : Option Addr) (m : Nat) (news : List Value) : Prop := (A = none ∧ m = 0 ∧ news = []) ∨ ∃ ad, A = some ad ∧ ∀ j u, news[j]? = some u → w.cell? (ad.add j) = some u
theorem run_appB {P : Program} {w : World} (t ty : TypeId) (base : Nat) (e : TypeId) (i : TypeInfo) (z : Value) (size bytes : Nat) (ht : P.underlying t = some (.slice e)) (hi : P.info? e = some i) (hz : i.zero = some z)
    (hsize : i.size = size) (hby : i.bytes = bytes) (hzs : z.cells.size = size) (hsz : 0 < size)
    (v : Value) (n : Nat) (xs : List Value) (hown : w.ownsRow base e size v n xs)
    (A : Option Addr) (m c : Nat) (news : List Value) (hl : news.length = m * size) (hs : SrcB w A m news) (h1 : ∀ u ∈ news, u.oneCell' = true)
    (h63 : n + m ≤ maxLen) (hbytes : (n + m) * bytes ≤ 140737488355328) (hbase : base ≤ w.heap.size) :
    ∃ v' w', (Builtin.append_ #[t, t] ty #[v, .slice A m c]).run P w = .ok v' w' ∧ w'.ownsRow base e size v' (n + m) (xs ++ news) ∧ w.grownBy w' v.ownBlock ∧ (v'.ownBlock = v.ownBlock ∨ v'.ownBlock = some w.heap.size) := by
  rcases hs with ⟨rfl, rfl, rfl⟩ | ⟨ad, rfl, hr⟩
  · exact ⟨v, w, run_append_noneB t ty base e i size ht hi v n xs c hown, by simpa using hown, ⟨rfl, rfl, rfl, Nat.le_refl _, fun _ _ _ => rfl⟩, .inl rfl⟩
  · obtain ⟨v', w', hrun, h2, h3, _, h5⟩ := run_append_own_at (P := P) w base t ty e i z size bytes ht hi hz hsize hby hzs hsz v n xs hown ad m c news hl hr h1 h63 hbytes hbase
    exact ⟨v', w', hrun, h2, h3, h5⟩
theorem step_appB {P : Program} {w : World} {o : Oper} {a : Act} {K : Act → World → Prop} {Q : Exit → Act → World → Prop} (s x : Operand) (t : TypeId)
    (ho : o.op = .call { callee := .builtin .append, args := #[s, x], argTypes := #[t, t] })
    (base : Nat) (e : TypeId) (i : TypeInfo) (z : Value) (size bytes : Nat) (ht : P.underlying t = some (.slice e)) (hi : P.info? e = some i) (hz : i.zero = some z)
    (hsize : i.size = size) (hby : i.bytes = bytes) (hzs : z.cells.size = size) (hsz : 0 < size)
    (v : Value) (n : Nat) (xs : List Value) (hs : a.eval s = v) (hown : w.ownsRow base e size v n xs)
    (A : Option Addr) (m c : Nat) (news : List Value) (hx : a.eval x = .slice A m c) (hl : news.length = m * size) (hsrc : SrcB w A m news) (h1 : ∀ u ∈ news, u.oneCell' = true)
    (h63 : n + m ≤ maxLen) (hbytes : (n + m) * bytes ≤ 140737488355328) (hbase : base ≤ w.heap.size)
    (h : ∀ v' w', w'.ownsRow base e size v' (n + m) (xs ++ news) → w.grownBy w' v.ownBlock → (v'.ownBlock = v.ownBlock ∨ v'.ownBlock = some w.heap.size) → K (a.put o.dst v') w') :
    Oper.wp P o a w K Q := by
  obtain ⟨v', w', hr, h2, h3, h4⟩ := run_appB (P := P) t o.type base e i z size bytes ht hi hz hsize hby hzs hsz v n xs hown A m c news hl hsrc h1 h63 hbytes hbase
  unfold Oper.wp execOp
  simp only [ho, resolve, invoke, builtin, Sem.run_bind, Sem.run_pure, Result.andThen_ok, List.map_toArray, List.map_cons, List.map_nil, hs, hx, hr]
  exact h v' w' h2 h3 h4
theorem src_rowB {α : Type} {sz B : Nat} {P : CellP α} {enc : α → List Value} {w : World} {A : Option Addr} {n c : Nat} {xs : List α} (h : RowV sz P B w (.slice A n c) xs) (he : ∀ B w cs x, P B w cs x → cs = enc x) (hl : ∀ x, (enc x).length = sz) (h0 : 0 < sz) : SrcB w A n (flat enc xs) := by
  obtain ⟨A', n', c', e, hn, _, _, hc⟩ := h
  injection e with e1 e2 e3
  subst e1 e2 e3
  rcases hc with rfl | ⟨b, o, rfl, hc⟩
  · cases A with
    | none => exact .inl ⟨rfl, hn.out, rfl⟩
    | some ad => exact .inr ⟨ad, rfl, fun j u hu => by simp [flat] at hu⟩
  · refine .inr ⟨_, rfl, fun j u hu => ?_⟩
    have hps : ∀ q ∈ xs.map (fun x => (enc x, x)), q.1.length = sz := fun q hq => by
      obtain ⟨x, _, rfl⟩ := List.mem_map.1 hq
      exact hl x
    have hfl : (xs.map (fun x => (enc x, x))).flatMap Prod.fst = flat enc xs := by simp [flat, List.flatMap_map]
    have hll : (flat enc xs).length = xs.length * sz := by
      clear hc hfl hps hu hn
      induction xs with
      | nil => simp [flat]
      | cons x r ih => simp only [flat, List.flatMap_cons, List.length_append, List.length_cons] at ih ⊢; rw [ih, hl, Nat.add_mul]; omega
    have hj := (List.getElem?_eq_some_iff.1 hu).1
    rw [hll] at hj
    have hd : j / sz < xs.length := (Nat.div_lt_iff_lt_mul h0).2 hj
    have hx : xs[j / sz]? = some (xs[j / sz]'hd) := List.getElem?_eq_getElem hd
    have hm := Nat.mod_lt j h0
    have hg := flatM_get _ hps (j / sz) (j % sz) (enc (xs[j / sz]'hd), xs[j / sz]'hd) (by rw [List.getElem?_map, hx]; rfl) hm
    have ej : j / sz * sz + j % sz = j := by rw [Nat.mul_comm]; exact Nat.div_add_mod j sz
    rw [hfl, ej, hu] at hg
    obtain ⟨_, cs, hcs, hP⟩ := hc _ _ hx
    have := he _ _ _ _ hP
    subst this
    have h2 := hcs (j % sz) (by rw [hl]; exact hm)
    rw [Addr.add_mid, show o + j = o + j / sz * sz + j % sz by omega, h2]
    simp only at hg
    rw [hg, List.getElem?_eq_getElem (by rw [hl]; exact hm)]
theorem flat_lenB {α : Type} {sz : Nat} {enc : α → List Value} (hl : ∀ x, (enc x).length = sz) : ∀ (xs : List α), (flat enc xs).length = xs.length * sz
  | [] => by simp [flat]
  | x :: r => by have ih := flat_lenB hl r; simp only [flat, List.flatMap_cons, List.length_append, List.length_cons] at ih ⊢; rw [ih, hl, Nat.add_mul]; omega
/-- a cell of a match, a cell of a value -/
def MC (j : Nat) (u : Value) : Prop := match j with
  | 0 => ∃ b : Bool, u = .bool b
  | 5 => ∃ z : Int, u = .int .i64 z ∧ I64 z
  | _ => ∃ z : Nat, u = .int .u64 z ∧ z < 18446744073709551616
def VC (_ : Nat) (u : Value) : Prop := ∃ z : Nat, u = .int .u64 z ∧ z < 18446744073709551616
/-- a list of cells, all of their kind -/
def GoodC (C : Nat → Value → Prop) (sz : Nat) (xs : List Value) : Prop := ∀ i u, xs[i]? = some u → C (i % sz) u
theorem GoodC.set {C : Nat → Value → Prop} {sz : Nat} {xs : List Value} (h : GoodC C sz xs) (i : Nat) (u : Value) (hu : C (i % sz) u) : GoodC C sz (xs.set i u) := fun j y hy => by
  rw [List.getElem?_set] at hy
  by_cases e : i = j
  · subst e
    rw [if_pos rfl] at hy
    split at hy
    · injection hy with hy; subst hy; exact hu
    · cases hy
  · rw [if_neg e] at hy
    exact h j y hy
theorem GoodC.app {C : Nat → Value → Prop} {sz n : Nat} {xs ys : List Value} (h : GoodC C sz xs) (hn : xs.length = n * sz) (k : GoodC C sz ys) : GoodC C sz (xs ++ ys) := fun i u hu => by
  rcases Nat.lt_or_ge i xs.length with hi | hi
  · rw [List.getElem?_append_left hi] at hu
    exact h i u hu
  · rw [List.getElem?_append_right hi] at hu
    have := k _ u hu
    have e : (i - xs.length) % sz = i % sz := by
      have h1 : i = (i - xs.length) + n * sz := by rw [← hn]; omega
      conv => rhs; rw [h1]
      rw [Nat.add_mul_mod_self_right]
    rwa [e] at this
theorem hl_of (a b : Nat) (ha : a < 18446744073709551616) (hb : b < 18446744073709551616) : hi (a * 18446744073709551616 + b) = a ∧ lo (a * 18446744073709551616 + b) = b ∧ a * 18446744073709551616 + b < 2 ^ 128 := by
  unfold hi lo
  omega
theorem good_match : ∀ (n : Nat) (xs : List Value), xs.length = n * 8 → GoodC MC 8 xs → ∃ ms : List MatchD, ms.length = n ∧ xs = flat matchCells ms ∧ ∀ m ∈ ms, MatchOk m
  | 0, xs, h, _ => by
    have e : xs = [] := List.eq_nil_of_length_eq_zero (by omega)
    subst e
    exact ⟨[], rfl, rfl, fun _ h => by cases h⟩
  | n + 1, xs, h, hg => by
    match xs, h with
    | c0 :: c1 :: c2 :: c3 :: c4 :: c5 :: c6 :: c7 :: r, h =>
      obtain ⟨b, rfl⟩ : ∃ b : Bool, c0 = .bool b := hg 0 c0 rfl
      obtain ⟨a1, rfl, l1⟩ : ∃ z : Nat, c1 = .int .u64 z ∧ z < 18446744073709551616 := hg 1 c1 rfl
      obtain ⟨a2, rfl, l2⟩ : ∃ z : Nat, c2 = .int .u64 z ∧ z < 18446744073709551616 := hg 2 c2 rfl
      obtain ⟨a3, rfl, l3⟩ : ∃ z : Nat, c3 = .int .u64 z ∧ z < 18446744073709551616 := hg 3 c3 rfl
      obtain ⟨a4, rfl, l4⟩ : ∃ z : Nat, c4 = .int .u64 z ∧ z < 18446744073709551616 := hg 4 c4 rfl
      obtain ⟨a5, rfl, l5⟩ : ∃ z : Int, c5 = .int .i64 z ∧ I64 z := hg 5 c5 rfl
      obtain ⟨a6, rfl, l6⟩ : ∃ z : Nat, c6 = .int .u64 z ∧ z < 18446744073709551616 := hg 6 c6 rfl
      obtain ⟨a7, rfl, l7⟩ : ∃ z : Nat, c7 = .int .u64 z ∧ z < 18446744073709551616 := hg 7 c7 rfl
      obtain ⟨ms, e1, e2, e3⟩ := good_match n r (by simp at h; omega) fun i u hu => by
        have := hg (i + 8) u (by simpa using hu)
        rwa [Nat.add_mod_right] at this
      obtain ⟨p1, p2, p3⟩ := hl_of a1 a2 l1 l2
      obtain ⟨q1, q2, q3⟩ := hl_of a3 a4 l3 l4
      obtain ⟨r1, r2, r3⟩ := hl_of a6 a7 l6 l7
      refine ⟨⟨b, a1 * 18446744073709551616 + a2, a3 * 18446744073709551616 + a4, a5, a6 * 18446744073709551616 + a7⟩ :: ms, by simp [e1], ?_, fun m hm => ?_⟩
      rotate_left
      · rcases List.mem_cons.1 hm with rfl | hm
        · exact ⟨p3, q3, r3, l5⟩
        · exact e3 m hm
      · simp only [flat, List.flatMap_cons, matchCells, p1, p2, q1, q2, r1, r2, List.cons_append, List.nil_append]
        rw [e2]; rfl
    | [], h | [_], h | [_, _], h | [_, _, _], h | [_, _, _, _], h | [_, _, _, _, _], h | [_, _, _, _, _, _], h | [_, _, _, _, _, _, _], h => first | (simp at h; done) | (simp at h; omega)
theorem good_val : ∀ (n : Nat) (xs : List Value), xs.length = n * 2 → GoodC VC 2 xs → ∃ us : List Nat, us.length = n ∧ xs = flat (fun u => [.int .u64 (hi u), .int .u64 (lo u)]) us ∧ ∀ u ∈ us, u < 2 ^ 128
  | 0, xs, h, _ => by
    have e : xs = [] := List.eq_nil_of_length_eq_zero (by omega)
    subst e
    exact ⟨[], rfl, rfl, fun _ h => by cases h⟩
  | n + 1, xs, h, hg => by
    match xs, h with
    | c0 :: c1 :: r, h =>
      obtain ⟨a1, rfl, l1⟩ : ∃ z : Nat, c0 = .int .u64 z ∧ z < 18446744073709551616 := hg 0 c0 rfl
      obtain ⟨a2, rfl, l2⟩ : ∃ z : Nat, c1 = .int .u64 z ∧ z < 18446744073709551616 := hg 1 c1 rfl
      obtain ⟨us, e1, e2, e3⟩ := good_val n r (by simp at h; omega) fun i u hu => by
        have := hg (i + 2) u (by simpa using hu)
        rwa [Nat.add_mod_right] at this
      obtain ⟨p1, p2, p3⟩ := hl_of a1 a2 l1 l2
      refine ⟨(a1 * 18446744073709551616 + a2) :: us, by simp [e1], ?_, fun m hm => ?_⟩
      rotate_left
      · rcases List.mem_cons.1 hm with rfl | hm
        · exact p3
        · exact e3 m hm
      · simp only [flat, List.flatMap_cons, p1, p2, List.cons_append, List.nil_append]
        rw [e2]; rfl
    | [], h | [_], h => first | (simp at h; done) | (simp at h; omega)
/-- the entry that is bent: its box, the value's, the result's; two rows of its own -/
structure BtS (w W : World) (x : Nat) (t p a : Int) (v1 v2 : Value) (n m : Nat) (xs ys : List Value) : Prop where
  bl : Below w.heap.size w W
  be : W.heap[w.heap.size]? = some (.cells #[.int .i64 t, v1, .int .i64 p, .int .i64 a, v2] 26 (0, 0))
  bv : W.heap[w.heap.size + 1]? = some (.cells #[.int .u64 (hi x), .int .u64 (lo x)] 29 (0, 0))
  br : W.heap[w.heap.size + 2]? = some (.cells #[.int .i64 0, .slice none 0 0, .int .i64 0, .int .i64 0, .slice none 0 0] 26 (0, 0))
  r1 : W.ownsRow (w.heap.size + 3) 75 8 v1 n xs
  r2 : W.ownsRow (w.heap.size + 3) 29 2 v2 m ys
  g1 : GoodC MC 8 xs
  g2 : GoodC VC 2 ys
  ln : n ≤ 2199023255552 ∧ m ≤ 8796093022208
theorem BtS.keep {w W W' : World} {x : Nat} {t p a : Int} {v1 v2 : Value} {n m : Nat} {xs ys : List Value} (h : BtS w W x t p a v1 v2 n m xs ys) (hb : Below W.heap.size W W') : BtS w W' x t p a v1 v2 n m xs ys := by
  have hz : w.heap.size + 2 < W.heap.size := (Array.getElem?_eq_some_iff.1 h.br).1
  exact ⟨h.bl.trans (hb.mono h.bl.size), (hb.block _ (by omega)).trans h.be, (hb.block _ (by omega)).trans h.bv, (hb.block _ (by omega)).trans h.br, World.ownsRow.kept h.r1 (grown_of_below hb none) (by cases v1.ownBlock <;> simp), World.ownsRow.kept h.r2 (grown_of_below hb none) (by cases v2.ownBlock <;> simp), h.g1, h.g2, h.ln⟩
/-- where a match lies: in the row, or in a box of its own -/
structure PtS (w W : World) (v1 v2 : Value) (n b o : Nat) : Prop where
  md : o % 8 = 0
  lo : w.heap.size + 3 ≤ b
  ne : v2.ownBlock = none ∨ v2.ownBlock ≠ some b
  cl : ∀ j, j < 8 → ∃ u, W.cell? ⟨b, o + j, none⟩ = some u ∧ MC j u
  fz : ∀ j, W.frozen? ⟨b, j, none⟩ = false
  ow : (v1.ownBlock = none ∨ v1.ownBlock ≠ some b) ∨ ∃ c, v1 = .slice (some ⟨b, 0, none⟩) n c
theorem PtS.keep {w W W' : World} {v1 v2 : Value} {n b o : Nat} (h : PtS w W v1 v2 n b o) (hb : Below W.heap.size W W') : PtS w W' v1 v2 n b o := by
  refine ⟨h.md, h.lo, h.ne, fun j hj => ?_, fun j => ?_, h.ow⟩
  · obtain ⟨u, hu, hc⟩ := h.cl j hj
    exact ⟨u, (World.cell?_of_block (hb.block b (World.block_lt_of_cell? W _ hu))).trans hu, hc⟩
  · obtain ⟨u, hu, hc⟩ := h.cl 0 (by decide)
    exact (World.frozen?_of_block (hb.block b (World.block_lt_of_cell? W _ hu))).trans (h.fz j)
theorem PtS.put {w W : World} {x : Nat} {t p a : Int} {v1 v2 : Value} {n m b o : Nat} {xs ys : List Value} (h : PtS w W v1 v2 n b o) (k : BtS w W x t p a v1 v2 n m xs ys) (j : Nat) (hj : j < 8) (u : Value) (hu : MC j u) : ∃ xs', BtS w (W.setCell ⟨b, o + j, none⟩ u) x t p a v1 v2 n m xs' ys ∧ PtS w (W.setCell ⟨b, o + j, none⟩ u) v1 v2 n b o := by
  have hg := grown_set W b (o + j) u
  have hz : w.heap.size + 2 < W.heap.size := (Array.getElem?_eq_some_iff.1 k.br).1
  have hlo := h.lo
  have ha : ∀ i, i < w.heap.size + 3 → (W.setCell ⟨b, o + j, none⟩ u).heap[i]? = W.heap[i]? := fun i hi => hg.block i (by omega) (fun e => by injection e with e; omega)
  have hbl : Below w.heap.size w (W.setCell ⟨b, o + j, none⟩ u) := ⟨hg.os.trans k.bl.os, hg.tape.trans k.bl.tape, hg.output.trans k.bl.output, Nat.le_trans k.bl.size hg.size, fun i hi => (ha i (by omega)).trans (k.bl.block i hi)⟩
  have hpt : PtS w (W.setCell ⟨b, o + j, none⟩ u) v1 v2 n b o := by
    refine ⟨h.md, h.lo, h.ne, fun i hi => ?_, fun i => by simpa using h.fz i, h.ow⟩
    by_cases e : i = j
    · subst e
      obtain ⟨u0, hu0, _⟩ := h.cl i hi
      exact ⟨u, World.cell?_setCell_same W _ u hu0, hu⟩
    · obtain ⟨u0, hu0, hc⟩ := h.cl i hi
      exact ⟨u0, (World.cell?_setCell_other W _ _ u (fun he => e (by injection he with _ he _; omega))).trans hu0, hc⟩
  have hr2 : (W.setCell ⟨b, o + j, none⟩ u).ownsRow (w.heap.size + 3) 29 2 v2 m ys := World.ownsRow.kept k.r2 hg h.ne
  rcases h.ow with ho | ⟨c, rfl⟩
  · exact ⟨xs, ⟨hbl, (ha _ (by omega)).trans k.be, (ha _ (by omega)).trans k.bv, (ha _ (by omega)).trans k.br, World.ownsRow.kept k.r1 hg ho, hr2, k.g1, k.g2, k.ln⟩, hpt⟩
  · obtain ⟨hr1, _⟩ := World.ownsRow.stored k.r1 (o + j) u
    refine ⟨xs.set (o + j) u, ⟨hbl, (ha _ (by omega)).trans k.be, (ha _ (by omega)).trans k.bv, (ha _ (by omega)).trans k.br, hr1, hr2, k.g1.set _ _ ?_, k.g2, k.ln⟩, hpt⟩
    have e : (o + j) % 8 = j := by have := h.md; omega
    rw [e]; exact hu
theorem PtS.row {w W : World} {x : Nat} {t p a : Int} {v2 : Value} {g c n m : Nat} {xs ys : List Value} (k : BtS w W x t p a (.slice (some ⟨g, 0, none⟩) n c) v2 n m xs ys) (r : Nat) (hr : r < n) : PtS w W (.slice (some ⟨g, 0, none⟩) n c) v2 n g (r * 8) := by
  refine ⟨by omega, (World.ownsRow.lt k.r1 g rfl).1, own_other k.r2 k.r1 (by decide), fun j hj => ?_, fun j => World.ownsRow.frozenAt k.r1 j, .inr ⟨c, rfl⟩⟩
  have hlt : r * 8 + j < n * 8 := by omega
  have hl : r * 8 + j < xs.length := by rw [k.r1.1]; exact hlt
  have hx : xs[r * 8 + j]? = some (xs[r * 8 + j]'hl) := List.getElem?_eq_getElem hl
  refine ⟨_, (World.ownsRow.cellAt k.r1 _ hlt).trans hx, ?_⟩
  have := k.g1 _ _ hx
  rwa [show (r * 8 + j) % 8 = j by omega] at this
theorem BtS.box {w W : World} {x : Nat} {t p a t' p' a' : Int} {v1 v2 v1' v2' : Value} {n m n' m' : Nat} {xs ys xs' ys' : List Value} (h : BtS w W x t p a v1 v2 n m xs ys) (j : Nat) (u : Value) (he : (#[.int .i64 t, v1, .int .i64 p, .int .i64 a, v2] : Array Value).setIfInBounds j u = #[.int .i64 t', v1', .int .i64 p', .int .i64 a', v2'])
    (r1 : W.ownsRow (w.heap.size + 3) 75 8 v1' n' xs') (r2 : W.ownsRow (w.heap.size + 3) 29 2 v2' m' ys') (g1 : GoodC MC 8 xs') (g2 : GoodC VC 2 ys') (ln : n' ≤ 2199023255552 ∧ m' ≤ 8796093022208) : BtS w (W.setCell ⟨w.heap.size, j, none⟩ u) x t' p' a' v1' v2' n' m' xs' ys' := by
  have hg := grown_set W w.heap.size j u
  have hz : w.heap.size + 2 < W.heap.size := (Array.getElem?_eq_some_iff.1 h.br).1
  have ha : ∀ k, k < W.heap.size → k ≠ w.heap.size → (W.setCell ⟨w.heap.size, j, none⟩ u).heap[k]? = W.heap[k]? := fun k hk hne => hg.block k hk (fun e => hne (by injection e))
  refine ⟨⟨hg.os.trans h.bl.os, hg.tape.trans h.bl.tape, hg.output.trans h.bl.output, Nat.le_trans h.bl.size hg.size, fun k hk => (ha k (by omega) (by omega)).trans (h.bl.block k hk)⟩, ?_, (ha _ (by omega) (by omega)).trans h.bv, (ha _ (by omega) (by omega)).trans h.br, World.ownsRow.kept r1 hg (.inr fun e => by have := (World.ownsRow.lt r1 _ e).1; omega), World.ownsRow.kept r2 hg (.inr fun e => by have := (World.ownsRow.lt r2 _ e).1; omega), g1, g2, ln⟩
  rw [blk_set h.be j u, he]
theorem BtS.set0 {w W : World} {x : Nat} {t p a : Int} {v1 v2 : Value} {n m : Nat} {xs ys : List Value} (h : BtS w W x t p a v1 v2 n m xs ys) (q : Int) : BtS w (W.setCell ⟨w.heap.size, 0, none⟩ (.int .i64 q)) x q p a v1 v2 n m xs ys := h.box 0 _ rfl h.r1 h.r2 h.g1 h.g2 h.ln
theorem BtS.set2 {w W : World} {x : Nat} {t p a : Int} {v1 v2 : Value} {n m : Nat} {xs ys : List Value} (h : BtS w W x t p a v1 v2 n m xs ys) (q : Int) : BtS w (W.setCell ⟨w.heap.size, 2, none⟩ (.int .i64 q)) x t q a v1 v2 n m xs ys := h.box 2 _ rfl h.r1 h.r2 h.g1 h.g2 h.ln
theorem BtS.set3 {w W : World} {x : Nat} {t p a : Int} {v1 v2 : Value} {n m : Nat} {xs ys : List Value} (h : BtS w W x t p a v1 v2 n m xs ys) (q : Int) : BtS w (W.setCell ⟨w.heap.size, 3, none⟩ (.int .i64 q)) x t p q v1 v2 n m xs ys := h.box 3 _ rfl h.r1 h.r2 h.g1 h.g2 h.ln
/-- a longer row of arguments -/
theorem BtS.app4 {w W W' : World} {x : Nat} {t p a : Int} {v1 v2 v2' : Value} {n m : Nat} {xs ys zs : List Value} (h : BtS w W x t p a v1 v2 n m xs ys) (hg : W.grownBy W' v2.ownBlock) (hO : W'.ownsRow (w.heap.size + 3) 29 2 v2' (m + 1) (ys ++ zs)) (hz : GoodC VC 2 zs) (hm : m < 8796093022208) : BtS w (W'.setCell ⟨w.heap.size, 4, none⟩ v2') x t p a v1 v2' n (m + 1) xs (ys ++ zs) := by
  have hz2 : w.heap.size + 2 < W.heap.size := (Array.getElem?_eq_some_iff.1 h.br).1
  have ha : ∀ k, k < w.heap.size + 3 → W'.heap[k]? = W.heap[k]? := fun k hk => hg.block k (by omega) (fun e => by have := (World.ownsRow.lt h.r2 k e.symm).1; omega)
  have r1 := World.ownsRow.kept h.r1 hg (own_other h.r1 h.r2 (by decide))
  have h2 := grown_set W' w.heap.size 4 v2'
  have hs := hg.size
  have hb : ∀ k, k < W'.heap.size → k ≠ w.heap.size → (W'.setCell ⟨w.heap.size, 4, none⟩ v2').heap[k]? = W'.heap[k]? := fun k hk hne => h2.block k hk (fun e => hne (by injection e))
  refine ⟨⟨h2.os.trans (hg.os.trans h.bl.os), h2.tape.trans (hg.tape.trans h.bl.tape), h2.output.trans (hg.output.trans h.bl.output), Nat.le_trans h.bl.size (Nat.le_trans hg.size h2.size), fun k hk => (hb k (by omega) (by omega)).trans ((ha k (by omega)).trans (h.bl.block k hk))⟩, ?_, (hb _ (by omega) (by omega)).trans ((ha _ (by omega)).trans h.bv), (hb _ (by omega) (by omega)).trans ((ha _ (by omega)).trans h.br), World.ownsRow.kept r1 h2 (.inr fun e => by have := (World.ownsRow.lt r1 _ e).1; omega), World.ownsRow.kept hO h2 (.inr fun e => by have := (World.ownsRow.lt hO _ e).1; omega), h.g1, h.g2.app h.r2.1 hz, by have := h.ln; omega⟩
  exact blk_set ((ha _ (by omega)).trans h.be) 4 v2'
theorem BtS.app1 {w W W' : World} {x : Nat} {t p a : Int} {v1 v2 v1' : Value} {n m : Nat} {xs ys zs : List Value} (h : BtS w W x t p a v1 v2 n m xs ys) (hg : W.grownBy W' v1.ownBlock) (hO : W'.ownsRow (w.heap.size + 3) 75 8 v1' (n + 1) (xs ++ zs)) (hz : GoodC MC 8 zs) (hm : n < 2199023255552) : BtS w (W'.setCell ⟨w.heap.size, 1, none⟩ v1') x t p a v1' v2 (n + 1) m (xs ++ zs) ys := by
  have hz2 : w.heap.size + 2 < W.heap.size := (Array.getElem?_eq_some_iff.1 h.br).1
  have ha : ∀ k, k < w.heap.size + 3 → W'.heap[k]? = W.heap[k]? := fun k hk => hg.block k (by omega) (fun e => by have := (World.ownsRow.lt h.r1 k e.symm).1; omega)
  have r2 := World.ownsRow.kept h.r2 hg (own_other h.r2 h.r1 (by decide))
  have h2 := grown_set W' w.heap.size 1 v1'
  have hs := hg.size
  have hb : ∀ k, k < W'.heap.size → k ≠ w.heap.size → (W'.setCell ⟨w.heap.size, 1, none⟩ v1').heap[k]? = W'.heap[k]? := fun k hk hne => h2.block k hk (fun e => hne (by injection e))
  refine ⟨⟨h2.os.trans (hg.os.trans h.bl.os), h2.tape.trans (hg.tape.trans h.bl.tape), h2.output.trans (hg.output.trans h.bl.output), Nat.le_trans h.bl.size (Nat.le_trans hg.size h2.size), fun k hk => (hb k (by omega) (by omega)).trans ((ha k (by omega)).trans (h.bl.block k hk))⟩, ?_, (hb _ (by omega) (by omega)).trans ((ha _ (by omega)).trans h.bv), (hb _ (by omega) (by omega)).trans ((ha _ (by omega)).trans h.br), World.ownsRow.kept hO h2 (.inr fun e => by have := (World.ownsRow.lt hO _ e).1; omega), World.ownsRow.kept r2 h2 (.inr fun e => by have := (World.ownsRow.lt r2 _ e).1; omega), h.g1.app h.r1.1 hz, h.g2, by have := h.ln; omega⟩
  exact blk_set ((ha _ (by omega)).trans h.be) 1 v1'
end Go.Proofs.Ythldelnibgdnaaa
