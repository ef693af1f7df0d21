/- Contracts, joined: UProg, UPre. -/
import Derived.Test.YtmlocfojmncghaaUMem
import Derived.BigQuiet
namespace Go.Proofs.Ytmlocfojmncghaa
section
open Go.RowKit
set_option maxRecDepth 100000 in
set_option maxHeartbeats 1000000 in
theorem ut_moreNew {w : World} {X N : Nat} {u v : Value} (hX : w.heap[X]? = some (.cells #[u, v, .int .i64 N] 128 (0, 0))) (hN : N < 1000000000) : Calls Try.prog 64 #[.pointer (some ⟨X, 0, none⟩), .pointer none] w fun e w' => e = .returned (.pointer (some ⟨w.heap.size, 0, none⟩)) ∧ w' = newU w X N := by
  have hlt := heap_ltU hX
  have h1 : (w.alloc (.cells #[.pointer none, .pointer none, .int .i64 0, .bool false, .int .i64 0] 137)).heap[X]? = some (.cells #[u, v, .int .i64 N] 128 (0, 0)) := (heap_alloc_old w _ hlt).trans hX
  have c2 := blk_cell h1 2 _ rfl
  have f2 : (w.alloc (.cells #[.pointer none, .pointer none, .int .i64 0, .bool false, .int .i64 0] 137)).frozen? ⟨X, 2, none⟩ = false := by simp [World.frozen?, h1]
  clear hX h1
  go_enter Try.func64, Try.ntmps64
  go_wp2
  go_ret
  exact ⟨rfl, rfl⟩
set_option maxRecDepth 100000 in
set_option maxHeartbeats 1000000 in
theorem ut_more {w : World} {X b n : Nat} {cs : Array Value} (hb : w.heap[b]? = some (.cells cs 137 (0, 0))) (hn : cs[2]? = some (.int .i64 n)) (hN : n < 1000000000) : Calls Try.prog 64 #[.pointer (some ⟨X, 0, none⟩), .pointer (some ⟨b, 0, none⟩)] w fun e w' => e = .returned (.pointer (some ⟨b, 0, none⟩)) ∧ w' = w.setCell ⟨b, 2, none⟩ (.int .i64 (n + 1 : Nat)) := by
  have c2 := blk_cell hb 2 _ hn
  have f2 : w.frozen? ⟨b, 2, none⟩ = false := by simp [World.frozen?, hb]
  clear hb hn
  go_enter Try.func64, Try.ntmps64
  go_wp2
  go_ret
  exact ⟨rfl, rfl⟩
set_option maxRecDepth 100000 in
set_option maxHeartbeats 1000000 in
theorem ut_less {w : World} {X b n : Nat} {cs : Array Value} (hb : w.heap[b]? = some (.cells cs 137 (0, 0))) (hn : cs[2]? = some (.int .i64 (n + 1 : Nat))) (hn0 : 0 < n) (hN : n < 1000000000) : Calls Try.prog 68 #[.pointer (some ⟨X, 0, none⟩), .pointer (some ⟨b, 0, none⟩)] w fun e w' => e = .returned (.pointer (some ⟨b, 0, none⟩)) ∧ w' = w.setCell ⟨b, 2, none⟩ (.int .i64 n) := by
  have c2 := blk_cell hb 2 _ hn
  have f2 : w.frozen? ⟨b, 2, none⟩ = false := by simp [World.frozen?, hb]
  have e1 : ((n + 1 : Nat) : Int) - 1 = n := by omega
  clear hb hn
  generalize ((n + 1 : Nat) : Int) = m at *
  obtain rfl : m = n + 1 := by omega
  go_enter Try.func68, Try.ntmps68
  go_wp2
  go_ret
  exact ⟨rfl, rfl⟩
set_option maxRecDepth 100000 in
set_option maxHeartbeats 1000000 in
theorem ut_less0 {w : World} {X b N : Nat} {cs : Array Value} {u v : Value} (hb : w.heap[b]? = some (.cells cs 137 (0, 0))) (hn : cs[2]? = some (.int .i64 1)) (hX : w.heap[X]? = some (.cells #[u, v, .int .i64 N] 128 (0, 0))) (hne : X ≠ b) (hN : N < 1000000000) (hN0 : 0 < N) : Calls Try.prog 68 #[.pointer (some ⟨X, 0, none⟩), .pointer (some ⟨b, 0, none⟩)] w fun e w' => e = .returned (.pointer none) ∧ w' = (w.setCell ⟨b, 2, none⟩ (.int .i64 (0 : Nat))).setCell ⟨X, 2, none⟩ (.int .i64 (N - 1 : Nat)) := by
  have c2 := blk_cell hb 2 _ hn
  have f2 : w.frozen? ⟨b, 2, none⟩ = false := by simp [World.frozen?, hb]
  have hX' : (w.setCell ⟨b, 2, none⟩ (.int .i64 0)).heap[X]? = some (.cells #[u, v, .int .i64 N] 128 (0, 0)) := by rw [setHU hne]; exact hX
  have c3 := blk_cell hX' 2 _ rfl
  have f3 : (w.setCell ⟨b, 2, none⟩ (.int .i64 0)).frozen? ⟨X, 2, none⟩ = false := by simp [World.frozen?, hX']
  obtain ⟨M, rfl⟩ : ∃ M, N = M + 1 := ⟨N - 1, by omega⟩
  have e1 : ((M + 1 : Nat) : Int) = (M : Int) + 1 := by omega
  rw [e1] at c3
  clear hb hn hX hX' e1
  go_enter Try.func68, Try.ntmps68
  go_wp2
  go_ret
  exact ⟨rfl, rfl⟩
def bitsU (b : Int) : Nat := (min (max b 1) 128).toNat
theorem bitsU_le (b : Int) : 1 ≤ bitsU b ∧ bitsU b ≤ 128 := by unfold bitsU; omega
set_option maxRecDepth 100000 in
set_option maxHeartbeats 1000000 in
theorem ut_New (b : Int) (w : World) : Calls Try.prog 18 #[.int .i64 b] w fun e w' => e = .returned (.pointer (some ⟨w.heap.size, 0, none⟩)) ∧ w' = w.alloc (.cells #[.int .i64 (bitsU b), .pointer none, .int .i64 0] 128) := by
  have e1 : ((bitsU b : Nat) : Int) = min (max b 1) 128 := by unfold bitsU; omega
  rw [e1]
  clear e1
  go_enter Try.func18, Try.ntmps18
  go_wp2
  go_ret
  exact ⟨rfl, rfl⟩
set_option maxRecDepth 100000 in
set_option maxHeartbeats 1000000 in
theorem ut_Nodes {w : World} {X N : Nat} {u v : Value} (hX : w.heap[X]? = some (.cells #[u, v, .int .i64 N] 128 (0, 0))) : Calls Try.prog 30 #[.pointer (some ⟨X, 0, none⟩)] w fun e w' => e = .returned (.int .i64 N) ∧ w' = w := by
  have c2 := blk_cell hX 2 _ rfl
  clear hX
  go_enter Try.func30, Try.ntmps30
  go_wp2
  go_ret
  exact ⟨rfl, rfl⟩
set_option maxRecDepth 100000 in
set_option maxHeartbeats 1000000 in
theorem ut_Len {w : World} {X bits N : Nat} {A : Pth → Option Nat} {c : Pth → Nat} {th : Pth → Bool} {id : Pth → Int} (h : TrieM w X bits A c th id N) : Calls Try.prog 27 #[.pointer (some ⟨X, 0, none⟩)] w fun e w' => e = .returned (.int .i64 (c [])) ∧ w' = w := by
  have c1 := blk_cell h.box 1 _ rfl
  by_cases hc : 0 < c []
  · obtain ⟨b, hb⟩ := h.has _ hc
    have c2 : w.cell? ⟨b, 2, none⟩ = some (.int .i64 (c [])) := blk_cell (h.node _ _ hb) 2 _ rfl
    have e1 : ptU (lvU A c []) = .pointer (some ⟨b, 0, none⟩) := by unfold lvU; rw [if_pos hc, hb]; rfl
    rw [e1] at c1
    clear h hb e1 hc
    generalize (c [] : Int) = k at *
    go_enter Try.func27, Try.ntmps27
    go_wp2
    go_ret
    exact ⟨rfl, rfl⟩
  · have e1 : ptU (lvU A c []) = .pointer none := by unfold lvU; rw [if_neg hc]; rfl
    rw [e1] at c1
    rw [show c [] = 0 by omega]
    clear h e1 hc
    go_enter Try.func27, Try.ntmps27
    go_wp2
    go_ret
    exact ⟨rfl, rfl⟩
set_option maxRecDepth 100000 in
set_option maxHeartbeats 1000000 in
theorem ut_LenNil (w : World) : Calls Try.prog 27 #[.pointer none] w fun e w' => e = .returned (.int .i64 0) ∧ w' = w := by
  go_enter Try.func27, Try.ntmps27
  go_wp2
  go_ret
  exact ⟨rfl, rfl⟩
end
section
open Go.RowKit
theorem some_boolU (p : Prop) : ∃ b : Bool, b = true ↔ p := by
  by_cases h : p
  · exact ⟨true, by simp [h]⟩
  · exact ⟨false, by simp [h]⟩
theorem dec_ofU {p : Prop} [Decidable p] {b : Bool} (h : b = true ↔ p) : decide p = b := by
  cases b
  · exact decide_eq_false fun hp => by simpa using h.2 hp
  · exact decide_eq_true (h.1 rfl)
theorem eqG_valU : Try.prog.eqGuardType Try.prog.depth 29 = false := by kernel_rfl
set_option maxRecDepth 100000 in
theorem eq_valU (a b c d : Int) (w : World) : (Op.equalIn 10000 29 (.agg #[.int .u64 a, .int .u64 b]) (.agg #[.int .u64 c, .int .u64 d])).run Try.prog w = .ok (decide (a = c) && decide (b = d)) w := by
  have hS : Try.prog.underlying 29 = some (.struct (Try.prog.fieldsOf 29)) := by kernel_rfl
  rw [show (10000 : Nat) = 9999 + 1 from rfl, run_equalIn_agg w 9999 29 _ _ hS (by kernel_rfl)]
  simp only [Program.fieldsOf, Try.underlying29]
  clear hS
  by_cases h1 : a = c
  · subst h1
    by_cases h2 : b = d
    · subst h2
      go_simp
    · rw [decide_eq_true rfl, decide_eq_false h2]
      go_simp
  · rw [decide_eq_false h1, Bool.false_and]
    go_simp
theorem hilo_eqU (x y : Nat) (hx : x < 2 ^ 128) (hy : y < 2 ^ 128) : (decide (hi x = hi y) && decide (lo x = lo y)) = decide (x = y) := by
  unfold hi lo
  by_cases h : x = y
  · subst h; simp
  · rw [decide_eq_false h, Bool.and_eq_false_iff]
    by_cases h1 : x / 18446744073709551616 = y / 18446744073709551616
    · right; rw [decide_eq_false_iff_not]; omega
    · left; rw [decide_eq_false_iff_not]; omega
theorem below_dnU (B : Nat) (w : World) (n : Nat) : Below B w (w.drewN n) := ⟨rfl, rfl, rfl, Nat.le_refl _, fun _ _ => rfl⟩
theorem and_128U {x y : Nat} (hx : x < 2 ^ 128) : x &&& y < 2 ^ 128 := Nat.lt_of_le_of_lt Nat.and_le_left hx
def preU (bits : Nat) (v : Nat) (n : Int) : Prop := 0 ≤ n ∧ n ≤ bits ∧ v &&& lead bits n = v
instance (bits v : Nat) (n : Int) : Decidable (preU bits v n) := by unfold preU; infer_instance
set_option maxRecDepth 100000 in
set_option maxHeartbeats 4000000 in
theorem ut_preNeg {w : World} {X : Nat} {bits : Nat} {u z : Value} (hX : w.heap[X]? = some (.cells #[.int .i64 bits, u, z] 128 (0, 0))) (v : Nat) (n : Int) (hn : n < 0) : Calls Try.prog 62 #[.pointer (some ⟨X, 0, none⟩), .agg #[.int .u64 (hi v), .int .u64 (lo v)], .int .i64 n] w (RetX (.bool false) w) := by
  have hlt := heap_ltU hX
  have h1 : (w.alloc (.cells #[.int .u64 (hi v), .int .u64 (lo v)] 29)).heap[X]? = some (.cells #[.int .i64 bits, u, z] 128 (0, 0)) := (heap_alloc_old w _ hlt).trans hX
  have c0 : (w.alloc (.cells #[.int .u64 (hi v), .int .u64 (lo v)] 29)).cell? ⟨X, 0, none⟩ = some (.int .i64 bits) := blk_cell h1 0 _ rfl
  have hn1 : decide (n < 0) = decide (n < 0) := rfl
  clear hX h1
  have hg : decide (0 ≤ n) = false := by simp; omega
  clear hn1
  go_enter Try.func62, Try.ntmps62
  go_upto_region 1 with fail
  go_quiet (fail)
  all_goals go_wp2
  all_goals go_ret
  all_goals exact ⟨rfl, ((Below.refl _ w).alloc (Nat.le_refl _) _).trans (below_dnU _ _ _)⟩
set_option maxRecDepth 100000 in
set_option maxHeartbeats 4000000 in
theorem ut_preBig {w : World} {X : Nat} {bits : Nat} {u z : Value} (hX : w.heap[X]? = some (.cells #[.int .i64 bits, u, z] 128 (0, 0))) (v : Nat) (n : Int) (hn : 0 ≤ n) (hb : (bits : Int) < n) : Calls Try.prog 62 #[.pointer (some ⟨X, 0, none⟩), .agg #[.int .u64 (hi v), .int .u64 (lo v)], .int .i64 n] w (RetX (.bool false) w) := by
  have hlt := heap_ltU hX
  have h1 : (w.alloc (.cells #[.int .u64 (hi v), .int .u64 (lo v)] 29)).heap[X]? = some (.cells #[.int .i64 bits, u, z] 128 (0, 0)) := (heap_alloc_old w _ hlt).trans hX
  have c0 : (w.alloc (.cells #[.int .u64 (hi v), .int .u64 (lo v)] 29)).cell? ⟨X, 0, none⟩ = some (.int .i64 bits) := blk_cell h1 0 _ rfl
  have hn1 : decide (n < 0) = decide (n < 0) := rfl
  clear hX h1
  have hg : decide (0 ≤ n) = true := by simp; omega
  have hg2 : decide (n ≤ (bits : Int)) = false := by simp; omega
  clear hn1
  go_enter Try.func62, Try.ntmps62
  go_upto_region 1 with fail
  go_quiet (fail)
  all_goals go_wp2
  all_goals go_ret
  all_goals exact ⟨rfl, ((Below.refl _ w).alloc (Nat.le_refl _) _).trans (below_dnU _ _ _)⟩
set_option maxRecDepth 100000 in
set_option maxHeartbeats 4000000 in
theorem ut_preIn {w : World} {X : Nat} {bits : Nat} {u z : Value} (hX : w.heap[X]? = some (.cells #[.int .i64 bits, u, z] 128 (0, 0))) (v : Nat) (hv : v < 2 ^ 128) (n : Int) (hn : 0 ≤ n) (hb : n ≤ (bits : Int)) : Calls Try.prog 62 #[.pointer (some ⟨X, 0, none⟩), .agg #[.int .u64 (hi v), .int .u64 (lo v)], .int .i64 n] w (RetX (.bool (decide (v &&& lead bits n = v))) w) := by
  have hlt := heap_ltU hX
  obtain ⟨W0, hW0⟩ : ∃ W, W = (w.alloc (.cells #[.int .u64 (hi v), .int .u64 (lo v)] 29)) := ⟨_, rfl⟩
  have hB0 : Below w.heap.size w W0 := by rw [hW0]; exact ((Below.refl w.heap.size w).alloc (by simp <;> omega) _)
  have hz0 : W0.heap.size = w.heap.size + 1 := by rw [hW0]; simp
  have b0_0 : W0.heap[w.heap.size]? = some (.cells #[.int .u64 (hi v), .int .u64 (lo v)] 29 (0, 0)) := by
    rw [hW0]
    exact heap_alloc_new _ _
  have b0_1 : W0.heap[X]? = some (.cells #[.int .i64 bits, u, z] 128 (0, 0)) := (hB0.block X hlt).trans hX
  have hq : ∀ W : World, (Op.equalIn 10000 29 (.agg #[.int .u64 (hi (v &&& lead bits n)), .int .u64 (lo (v &&& lead bits n))]) (.agg #[.int .u64 (hi v), .int .u64 (lo v)])).run Try.prog W = .ok (decide (v &&& lead bits n = v)) W := fun W => by rw [eq_valU, hilo_eqU _ _ (and_128U hv) hv]
  generalize decide (v &&& lead bits n = v) = r at hq ⊢
  have hG := eqG_valU
  have hg1 : decide (0 ≤ n) = true := decide_eq_true hn
  have hg2 : decide (n ≤ (bits : Int)) = true := decide_eq_true hb
  have HKS : Hid (∀ w', Below W0.heap.size W0 w' → Below W0.heap.size W0 w' ∧ w'.cell? ⟨w.heap.size, 0, none⟩ = some (.int .u64 (hi v)) ∧ w'.cell? ⟨w.heap.size, 1, none⟩ = some (.int .u64 (lo v)) ∧ w'.cell? ⟨X, 0, none⟩ = some (.int .i64 bits)) := Lib.hid fun w' hb => by
    have q0 := (hb.block (w.heap.size) (by omega)).trans b0_0
    have q1 := (hb.block (X) (by omega)).trans b0_1
    exact ⟨hb, blk_cell q0 0 _ rfl, blk_cell q0 1 _ rfl, blk_cell q1 0 _ rfl⟩
  have HB0 := Lib.hid hB0
  have HW0 := Lib.hid hW0
  clear hB0 hW0 b0_0 b0_1 hX
  go_enter Try.func62, Try.ntmps62
  go_upto_region 1 with fail
  rw [← HW0.out]
  go_region_held3 (fun w' => Below W0.heap.size W0 w' ∧ w'.cell? ⟨w.heap.size, 0, none⟩ = some (.int .u64 (hi v)) ∧ w'.cell? ⟨w.heap.size, 1, none⟩ = some (.int .u64 (lo v)) ∧ w'.cell? ⟨X, 0, none⟩ = some (.int .i64 bits))
    (first
      | exact HKS.out _ (Below.drew (Below.refl _ _))
      | exact HKS.out _ (below_call (And.left (by assumption)) (by assumption))
      | exact HKS.out _ (below_alloc (And.left (by assumption)) _)
      | assumption)
    (first
      | (go_at_call 87; (with_reducible refine (and_any _ _ _).mono ?_); rintro en v1 ⟨rfl, hv1⟩)
      | (go_at_call 86; (with_reducible refine (leading_any _ _ _).mono ?_); rintro en v1 ⟨rfl, hv1⟩))
  all_goals go_wp2
  all_goals go_ret
  all_goals exact ⟨rfl, HB0.out.trans ((And.left (by assumption : Below W0.heap.size W0 _ ∧ _)).mono HB0.out.size)⟩
theorem ut_isPrefix {w : World} {X : Nat} {bits : Nat} {u z : Value} (hX : w.heap[X]? = some (.cells #[.int .i64 bits, u, z] 128 (0, 0))) (v : Nat) (hv : v < 2 ^ 128) (n : Int) : Calls Try.prog 62 #[.pointer (some ⟨X, 0, none⟩), .agg #[.int .u64 (hi v), .int .u64 (lo v)], .int .i64 n] w (RetX (.bool (decide (preU bits v n))) w) := by
  by_cases h1 : n < 0
  · rw [decide_eq_false (fun h : preU bits v n => by have := h.1; omega)]
    exact ut_preNeg hX v n h1
  · by_cases h2 : (bits : Int) < n
    · rw [decide_eq_false (fun h : preU bits v n => by have := h.2.1; omega)]
      exact ut_preBig hX v n (by omega) h2
    · have e : decide (preU bits v n) = decide (v &&& lead bits n = v) := by
        by_cases h3 : v &&& lead bits n = v
        · rw [decide_eq_true h3]; exact decide_eq_true (⟨by omega, by omega, h3⟩ : preU bits v n)
        · rw [decide_eq_false h3, decide_eq_false (fun h : preU bits v n => h3 h.2.2)]
      rw [e]
      exact ut_preIn hX v hv n (by omega) (by omega)
set_option maxRecDepth 100000 in
set_option maxHeartbeats 4000000 in
theorem ut_preNil (v : Nat) (n : Int) (w : World) : Calls Try.prog 62 #[.pointer none, .agg #[.int .u64 (hi v), .int .u64 (lo v)], .int .i64 n] w (RetX (.bool false) w) := by
  go_enter Try.func62, Try.ntmps62
  go_upto_region 1 with fail
  go_quiet (fail)
  all_goals go_wp2
  all_goals go_ret
  all_goals exact ⟨rfl, ((Below.refl _ w).alloc (Nat.le_refl _) _).trans (below_dnU _ _ _)⟩
end
end Go.Proofs.Ytmlocfojmncghaa
