/- Layer 12: the program's isPrefix. -/
import Derived.Test.YtkennilcojbbgaaUProg
namespace Go.Proofs.Ytkennilcojbbgaa
open Go.RowKit
theorem some_boolU (p : Prop) : ∃ b : Bool, b = true ↔ p := by
  by_cases h : p
  · exact ⟨true, by simp [h]⟩
  · exact ⟨false, by simp [h]⟩
theorem dec_ofU {p : Prop} [Decidable p] {b : Bool} (h : b = true ↔ p) : decide p = b := by
  cases b
  · exact decide_eq_false fun hp => by simpa using h.2 hp
  · exact decide_eq_true (h.1 rfl)
theorem eqG_valU : Try.prog.eqGuardType Try.prog.depth 29 = false := by kernel_rfl
set_option maxRecDepth 100000 in
theorem eq_valU (a b c d : Int) (w : World) : (Op.equalIn 10000 29 (.agg #[.int .u64 a, .int .u64 b]) (.agg #[.int .u64 c, .int .u64 d])).run Try.prog w = .ok (decide (a = c) && decide (b = d)) w := by
  have hS : Try.prog.underlying 29 = some (.struct (Try.prog.fieldsOf 29)) := by kernel_rfl
  rw [show (10000 : Nat) = 9999 + 1 from rfl, run_equalIn_agg w 9999 29 _ _ hS (by kernel_rfl)]
  simp only [Program.fieldsOf, Try.underlying29]
  clear hS
  by_cases h1 : a = c
  · subst h1
    by_cases h2 : b = d
    · subst h2
      go_simp
    · rw [decide_eq_true rfl, decide_eq_false h2]
      go_simp
  · rw [decide_eq_false h1, Bool.false_and]
    go_simp
theorem hilo_eqU (x y : Nat) (hx : x < 2 ^ 128) (hy : y < 2 ^ 128) : (decide (hi x = hi y) && decide (lo x = lo y)) = decide (x = y) := by
  unfold hi lo
  by_cases h : x = y
  · subst h; simp
  · rw [decide_eq_false h, Bool.and_eq_false_iff]
    by_cases h1 : x / 18446744073709551616 = y / 18446744073709551616
    · right; rw [decide_eq_false_iff_not]; omega
    · left; rw [decide_eq_false_iff_not]; omega
theorem below_dnU (B : Nat) (w : World) (n : Nat) : Below B w (w.drewN n) := ⟨rfl, rfl, rfl, Nat.le_refl _, fun _ _ => rfl⟩
theorem and_128U {x y : Nat} (hx : x < 2 ^ 128) : x &&& y < 2 ^ 128 := Nat.lt_of_le_of_lt Nat.and_le_left hx
def preU (bits : Nat) (v : Nat) (n : Int) : Prop := 0 ≤ n ∧ n ≤ bits ∧ v &&& lead bits n = v
instance (bits v : Nat) (n : Int) : Decidable (preU bits v n) := by unfold preU; infer_instance
set_option maxRecDepth 100000 in
set_option maxHeartbeats 4000000 in
theorem ut_preNeg {w : World} {X : Nat} {bits : Nat} {u z : Value} (hX : w.heap[X]? = some (.cells #[.int .i64 bits, u, z] 131 (0, 0))) (v : Nat) (n : Int) (hn : n < 0) : Calls Try.prog 64 #[.pointer (some ⟨X, 0, none⟩), .agg #[.int .u64 (hi v), .int .u64 (lo v)], .int .i64 n] w (RetX (.bool false) w) := by
  have hlt := heap_ltU hX
  have h1 : (w.alloc (.cells #[.int .u64 (hi v), .int .u64 (lo v)] 29)).heap[X]? = some (.cells #[.int .i64 bits, u, z] 131 (0, 0)) := (heap_alloc_old w _ hlt).trans hX
  have c0 : (w.alloc (.cells #[.int .u64 (hi v), .int .u64 (lo v)] 29)).cell? ⟨X, 0, none⟩ = some (.int .i64 bits) := blk_cell h1 0 _ rfl
  have hn1 : decide (n < 0) = decide (n < 0) := rfl
  clear hX h1
  have hg : decide (0 ≤ n) = false := by simp; omega
  clear hn1
  go_enter Try.func64, Try.ntmps64
  go_upto_region 1 with fail
  go_quiet (fail)
  all_goals go_wp2
  all_goals go_ret
  all_goals exact ⟨rfl, ((Below.refl _ w).alloc (Nat.le_refl _) _).trans (below_dnU _ _ _)⟩
set_option maxRecDepth 100000 in
set_option maxHeartbeats 4000000 in
theorem ut_preBig {w : World} {X : Nat} {bits : Nat} {u z : Value} (hX : w.heap[X]? = some (.cells #[.int .i64 bits, u, z] 131 (0, 0))) (v : Nat) (n : Int) (hn : 0 ≤ n) (hb : (bits : Int) < n) : Calls Try.prog 64 #[.pointer (some ⟨X, 0, none⟩), .agg #[.int .u64 (hi v), .int .u64 (lo v)], .int .i64 n] w (RetX (.bool false) w) := by
  have hlt := heap_ltU hX
  have h1 : (w.alloc (.cells #[.int .u64 (hi v), .int .u64 (lo v)] 29)).heap[X]? = some (.cells #[.int .i64 bits, u, z] 131 (0, 0)) := (heap_alloc_old w _ hlt).trans hX
  have c0 : (w.alloc (.cells #[.int .u64 (hi v), .int .u64 (lo v)] 29)).cell? ⟨X, 0, none⟩ = some (.int .i64 bits) := blk_cell h1 0 _ rfl
  have hn1 : decide (n < 0) = decide (n < 0) := rfl
  clear hX h1
  have hg : decide (0 ≤ n) = true := by simp; omega
  have hg2 : decide (n ≤ (bits : Int)) = false := by simp; omega
  clear hn1
  go_enter Try.func64, Try.ntmps64
  go_upto_region 1 with fail
  go_quiet (fail)
  all_goals go_wp2
  all_goals go_ret
  all_goals exact ⟨rfl, ((Below.refl _ w).alloc (Nat.le_refl _) _).trans (below_dnU _ _ _)⟩
set_option maxRecDepth 100000 in
set_option maxHeartbeats 4000000 in
theorem ut_preIn {w : World} {X : Nat} {bits : Nat} {u z : Value} (hX : w.heap[X]? = some (.cells #[.int .i64 bits, u, z] 131 (0, 0))) (v : Nat) (hv : v < 2 ^ 128) (n : Int) (hn : 0 ≤ n) (hb : n ≤ (bits : Int)) : Calls Try.prog 64 #[.pointer (some ⟨X, 0, none⟩), .agg #[.int .u64 (hi v), .int .u64 (lo v)], .int .i64 n] w (RetX (.bool (decide (v &&& lead bits n = v))) w) := by
  have hlt := heap_ltU hX
  obtain ⟨W0, hW0⟩ : ∃ W, W = (w.alloc (.cells #[.int .u64 (hi v), .int .u64 (lo v)] 29)) := ⟨_, rfl⟩
  have hB0 : Below w.heap.size w W0 := by rw [hW0]; exact ((Below.refl w.heap.size w).alloc (by simp <;> omega) _)
  have hz0 : W0.heap.size = w.heap.size + 1 := by rw [hW0]; simp
  have b0_0 : W0.heap[w.heap.size]? = some (.cells #[.int .u64 (hi v), .int .u64 (lo v)] 29 (0, 0)) := by
    rw [hW0]
    exact heap_alloc_new _ _
  have b0_1 : W0.heap[X]? = some (.cells #[.int .i64 bits, u, z] 131 (0, 0)) := (hB0.block X hlt).trans hX
  have hq : ∀ W : World, (Op.equalIn 10000 29 (.agg #[.int .u64 (hi (v &&& lead bits n)), .int .u64 (lo (v &&& lead bits n))]) (.agg #[.int .u64 (hi v), .int .u64 (lo v)])).run Try.prog W = .ok (decide (v &&& lead bits n = v)) W := fun W => by rw [eq_valU, hilo_eqU _ _ (and_128U hv) hv]
  generalize decide (v &&& lead bits n = v) = r at hq ⊢
  have hG := eqG_valU
  have hg1 : decide (0 ≤ n) = true := decide_eq_true hn
  have hg2 : decide (n ≤ (bits : Int)) = true := decide_eq_true hb
  have HKS : Hid (∀ w', Below W0.heap.size W0 w' → Below W0.heap.size W0 w' ∧ w'.cell? ⟨w.heap.size, 0, none⟩ = some (.int .u64 (hi v)) ∧ w'.cell? ⟨w.heap.size, 1, none⟩ = some (.int .u64 (lo v)) ∧ w'.cell? ⟨X, 0, none⟩ = some (.int .i64 bits)) := Lib.hid fun w' hb => by
    have q0 := (hb.block (w.heap.size) (by omega)).trans b0_0
    have q1 := (hb.block (X) (by omega)).trans b0_1
    exact ⟨hb, blk_cell q0 0 _ rfl, blk_cell q0 1 _ rfl, blk_cell q1 0 _ rfl⟩
  have HB0 := Lib.hid hB0
  have HW0 := Lib.hid hW0
  clear hB0 hW0 b0_0 b0_1 hX
  go_enter Try.func64, Try.ntmps64
  go_upto_region 1 with fail
  rw [← HW0.out]
  go_region_held3 (fun w' => Below W0.heap.size W0 w' ∧ w'.cell? ⟨w.heap.size, 0, none⟩ = some (.int .u64 (hi v)) ∧ w'.cell? ⟨w.heap.size, 1, none⟩ = some (.int .u64 (lo v)) ∧ w'.cell? ⟨X, 0, none⟩ = some (.int .i64 bits))
    (first
      | exact HKS.out _ (Below.drew (Below.refl _ _))
      | exact HKS.out _ (below_call (And.left (by assumption)) (by assumption))
      | exact HKS.out _ (below_alloc (And.left (by assumption)) _)
      | assumption)
    (first
      | (go_at_call 89; (with_reducible refine (and_any _ _ _).mono ?_); rintro en v1 ⟨rfl, hv1⟩)
      | (go_at_call 88; (with_reducible refine (leading_any _ _ _).mono ?_); rintro en v1 ⟨rfl, hv1⟩))
  all_goals go_wp2
  all_goals go_ret
  all_goals exact ⟨rfl, HB0.out.trans ((And.left (by assumption : Below W0.heap.size W0 _ ∧ _)).mono HB0.out.size)⟩
theorem ut_isPrefix {w : World} {X : Nat} {bits : Nat} {u z : Value} (hX : w.heap[X]? = some (.cells #[.int .i64 bits, u, z] 131 (0, 0))) (v : Nat) (hv : v < 2 ^ 128) (n : Int) : Calls Try.prog 64 #[.pointer (some ⟨X, 0, none⟩), .agg #[.int .u64 (hi v), .int .u64 (lo v)], .int .i64 n] w (RetX (.bool (decide (preU bits v n))) w) := by
  by_cases h1 : n < 0
  · rw [decide_eq_false (fun h : preU bits v n => by have := h.1; omega)]
    exact ut_preNeg hX v n h1
  · by_cases h2 : (bits : Int) < n
    · rw [decide_eq_false (fun h : preU bits v n => by have := h.2.1; omega)]
      exact ut_preBig hX v n (by omega) h2
    · have e : decide (preU bits v n) = decide (v &&& lead bits n = v) := by
        by_cases h3 : v &&& lead bits n = v
        · rw [decide_eq_true h3]; exact decide_eq_true (⟨by omega, by omega, h3⟩ : preU bits v n)
        · rw [decide_eq_false h3, decide_eq_false (fun h : preU bits v n => h3 h.2.2)]
      rw [e]
      exact ut_preIn hX v hv n (by omega) (by omega)
set_option maxRecDepth 100000 in
set_option maxHeartbeats 4000000 in
theorem ut_preNil (v : Nat) (n : Int) (w : World) : Calls Try.prog 64 #[.pointer none, .agg #[.int .u64 (hi v), .int .u64 (lo v)], .int .i64 n] w (RetX (.bool false) w) := by
  go_enter Try.func64, Try.ntmps64
  go_upto_region 1 with fail
  go_quiet (fail)
  all_goals go_wp2
  all_goals go_ret
  all_goals exact ⟨rfl, ((Below.refl _ w).alloc (Nat.le_refl _) _).trans (below_dnU _ _ _)⟩
end Go.Proofs.Ytkennilcojbbgaa
