/- Package number: isValue, Compare, Value. -/
import Derived.Test.YtoiofbpmgihkfaaDoorNNum4
import Derived.Laws.StructEq
import Derived.ChangeKeysEq
namespace Go.Proofs.YtoiofbpmgihkfaaDoor
open Go.RowKit

/-- z is from 0 to 2^128 - 1 -/
def isV (z : Int) : Bool := decide (0 ≤ z ∧ z < 340282366920938463463374607431768211456)
theorem isV_words (z : Int) (h : Rg z) : isV z = decide (wd z 4 = 0 ∧ wd z 5 = 0) := by
  have h4 : pw 4 = 340282366920938463463374607431768211456 := rfl
  have h5 : pw 5 = 1461501637330902918203684832716283019655932542976 := rfl
  unfold Rg at h
  unfold isV wd
  rw [h4, h5, decide_eq_decide]
  omega
set_option maxRecDepth 100000 in
set_option maxHeartbeats 1000000 in
theorem nn_isv (z : Int) (h : Rg z) (w : World) : Calls Tryd.prog 85 #[nV z] w (RetX (.bool (isV z)) w) := by
  have T := Lib.hid (isV_words z h)
  clear h
  rw [nV_lit]
  go_enter Tryd.func85, Tryd.ntmps85
  go_wp2
  go_loop [8] (fun i => ∃ k : Nat, k ≤ 2 ∧ i = .int .i64 k ∧ ∀ j, j < k → wd z (4 + j) = 0) (fun i => 2 - (intOf i).toNat)
  case atStart => exact ⟨0, by omega, rfl, fun _ h => absurd h (Nat.not_lt_zero _)⟩
  case round =>
    obtain ⟨k, hk, rfl, hj⟩ := hrel
    have HJ := Lib.hid hj
    clear hj
    by_cases hlt : (k : Int) < 2
    · have c : (w.alloc (.cells #[.int .u32 (wd z 0), .int .u32 (wd z 1), .int .u32 (wd z 2), .int .u32 (wd z 3), .int .u32 (wd z 4), .int .u32 (wd z 5)] 107)).cell? ⟨w.heap.size, 4 + k, none⟩ = some (.int .u32 (wd z (4 + k))) := by
        rw [World.cell?_alloc_new]
        have : k = 0 ∨ k = 1 := by omega
        rcases this with rfl | rfl <;> rfl
      by_cases hz : wd z (4 + k) = 0
      · have HZ := Lib.hid hz
        rw [hz] at c
        clear hz
        go_wp2
        go_round
        case rel =>
          refine ⟨k + 1, by omega, by simp, fun j hj => ?_⟩
          by_cases e : j = k
          · subst e; exact HZ.out
          · exact HJ.out j (by omega)
        case measure => simp [intOf]; omega
      · have t1 : (wd z (4 + k) == 0) = false := by simpa using hz
        have t2 : (wd z (4 + k) != 0) = true := by simpa using hz
        have HZ := Lib.hid hz
        clear hz
        go_wp2
        go_ret
        refine ⟨?_, (Below.refl _ _).alloc (by simp) _⟩
        have e : isV z = false := by
          rw [T.out, decide_eq_false_iff_not]
          intro ⟨a, b⟩
          have : k = 0 ∨ k = 1 := by omega
          rcases this with rfl | rfl
          · exact HZ.out a
          · exact HZ.out b
        rw [e]
        rfl
    · have ek : k = 2 := by omega
      subst ek
      go_wp2
      go_ret
      refine ⟨?_, (Below.refl _ _).alloc (by simp) _⟩
      have e : isV z = true := by
        rw [T.out, decide_eq_true_iff]
        exact ⟨HJ.out 0 (by omega), HJ.out 1 (by omega)⟩
      rw [e]
      rfl

/-- the first word from the top at which a and b part -/
theorem sgn_words (a b : Int) (i : Nat) (h : a / pw (i + 1) = b / pw (i + 1)) (hne : wd a i ≠ wd b i) : sgn (wd a i) (wd b i) = sgn a b := by
  have e1 : a / pw i = 4294967296 * (a / pw (i + 1)) + wd a i := by rw [div_succ]; unfold wd; omega
  have e2 : b / pw i = 4294967296 * (b / pw (i + 1)) + wd b i := by rw [div_succ]; unfold wd; omega
  have hp := pw_pos i
  have l1 := div_split a i
  have l2 := div_split b i
  have m1 := Int.emod_nonneg a (Int.ne_of_gt hp)
  have m2 := Int.emod_nonneg b (Int.ne_of_gt hp)
  have m3 := Int.emod_lt_of_pos a hp
  have m4 := Int.emod_lt_of_pos b hp
  rw [h] at e1
  by_cases lt : wd a i < wd b i
  · have hd : a / pw i + 1 ≤ b / pw i := by omega
    have := Int.mul_le_mul_of_nonneg_left hd (Int.le_of_lt hp)
    rw [Int.mul_add, Int.mul_one] at this
    unfold sgn
    rw [if_neg hne, if_pos lt, if_neg (by omega), if_pos (by omega)]
  · have hd : b / pw i + 1 ≤ a / pw i := by omega
    have := Int.mul_le_mul_of_nonneg_left hd (Int.le_of_lt hp)
    rw [Int.mul_add, Int.mul_one] at this
    unfold sgn
    rw [if_neg hne, if_neg lt, if_neg (by omega), if_neg (by omega)]
theorem sgn_top (a b : Int) (hne : tp a ≠ tp b) : sgn (tp a) (tp b) = sgn a b := by
  have h5 : pw 5 = 1461501637330902918203684832716283019655932542976 := rfl
  unfold tp at *
  rw [h5] at hne
  rw [h5]
  unfold sgn
  split <;> split <;> (try split) <;> (try split) <;> omega
theorem down_eq (a b : Int) (i : Nat) (h : a / pw (i + 1) = b / pw (i + 1)) (hw : wd a i = wd b i) : a / pw i = b / pw i := by
  have e1 : a / pw i = 4294967296 * (a / pw (i + 1)) + wd a i := by rw [div_succ]; unfold wd; omega
  have e2 : b / pw i = 4294967296 * (b / pw (i + 1)) + wd b i := by rw [div_succ]; unfold wd; omega
  rw [e1, e2, h, hw]
/-- what a walk says of six words one after the other -/
def six6 (a0 a1 a2 a3 a4 a5 b0 b1 b2 b3 b4 b5 : Int) : Bool := a0 == b0 && (a1 == b1 && (a2 == b2 && (a3 == b3 && (a4 == b4 && a5 == b5))))
set_option maxRecDepth 100000 in
set_option maxHeartbeats 1000000 in
theorem eqc_six (d : Nat) (a0 a1 a2 a3 a4 a5 b0 b1 b2 b3 b4 b5 : Int) (w : World) : (Op.equalIn (d + 2) 105 (.agg #[.int .u32 a0, .int .u32 a1, .int .u32 a2, .int .u32 a3, .int .u32 a4, .int .u32 a5]) (.agg #[.int .u32 b0, .int .u32 b1, .int .u32 b2, .int .u32 b3, .int .u32 b4, .int .u32 b5])).run Tryd.prog w = .ok (six6 a0 a1 a2 a3 a4 a5 b0 b1 b2 b3 b4 b5) w := by
  have hc : Tryd.prog.cellsOf 104 = 1 := by kernel_rfl
  obtain ⟨i, hi⟩ : ∃ i, Tryd.prog.info? 104 = some i := Option.isSome_iff_exists.1 (by kernel_rfl)
  have ha : ∀ w, (isAgg 104).run Tryd.prog w = .ok false w := fun w => by kernel_rfl
  have he : ∀ (a b : Int) (w : World), (Op.equalIn (d + 1) 104 (.int .u32 a) (.int .u32 b)).run Tryd.prog w = .ok (a == b) w := fun a b w => run_equalIn_int w d _ _ _ a b Tryd.underlying104
  rw [show d + 2 = (d + 1) + 1 from rfl, run_equalIn_array w (d + 1) _ _ Tryd.underlying105 hi, hc]
  have hr : List.range 6 = [0, 1, 2, 3, 4, 5] := rfl
  rw [hr]
  simp only [Op.eqItems, part, Sem.run_bind, ha, Result.andThen]
  simp [he, six6, Sem.run_ite]
  repeat' split
  all_goals simp_all
set_option maxRecDepth 100000 in
set_option maxHeartbeats 1000000 in
theorem eqc_num (d : Nat) (a0 a1 a2 a3 a4 a5 b0 b1 b2 b3 b4 b5 : Int) (w : World) : (Op.equalIn (d + 3) 107 (.agg #[.int .u32 a0, .int .u32 a1, .int .u32 a2, .int .u32 a3, .int .u32 a4, .int .u32 a5]) (.agg #[.int .u32 b0, .int .u32 b1, .int .u32 b2, .int .u32 b3, .int .u32 b4, .int .u32 b5])).run Tryd.prog w = .ok (six6 a0 a1 a2 a3 a4 a5 b0 b1 b2 b3 b4 b5) w := by
  have hS : Tryd.prog.underlying 107 = some (.struct (Tryd.prog.fieldsOf 107)) := by kernel_rfl
  have hV := fun w => eqc_six d a0 a1 a2 a3 a4 a5 b0 b1 b2 b3 b4 b5 w
  rw [show d + 3 = (d + 2) + 1 from rfl, run_equalIn_agg w (d + 2) 107 _ _ hS (by kernel_rfl)]
  simp only [Program.fieldsOf, Tryd.underlying107]
  clear hS
  go_simp
  cases six6 a0 a1 a2 a3 a4 a5 b0 b1 b2 b3 b4 b5 <;> rfl
theorem six_eq (a b : Int) (ha : Rg a) (hb : Rg b) : six6 (wd a 0) (wd a 1) (wd a 2) (wd a 3) (wd a 4) (wd a 5) (wd b 0) (wd b 1) (wd b 2) (wd b 3) (wd b 4) (wd b 5) = decide (a = b) := by
  rw [Bool.eq_iff_iff, decide_eq_true_iff]
  constructor
  · intro h
    simp only [six6, Bool.and_eq_true, beq_iff_eq] at h
    obtain ⟨h0, h1, h2, h3, h4, h5⟩ := h
    refine words_inj ha hb fun k hk => ?_
    match k, hk with
    | 0, _ => exact h0 | 1, _ => exact h1 | 2, _ => exact h2 | 3, _ => exact h3 | 4, _ => exact h4 | 5, _ => exact h5
  · rintro rfl; simp [six6]
set_option maxRecDepth 100000 in
theorem eqi_num (a b : Int) (ha : Rg a) (hb : Rg b) (w : World) : (Op.equalIn 10000 107 (.agg #[.int .u32 (wd a 0), .int .u32 (wd a 1), .int .u32 (wd a 2), .int .u32 (wd a 3), .int .u32 (wd a 4), .int .u32 (wd a 5)]) (.agg #[.int .u32 (wd b 0), .int .u32 (wd b 1), .int .u32 (wd b 2), .int .u32 (wd b 3), .int .u32 (wd b 4), .int .u32 (wd b 5)])).run Tryd.prog w = .ok (decide (a = b)) w := by
  rw [eqc_num 9997, six_eq a b ha hb]
set_option maxRecDepth 100000 in
theorem eq_num (a b : Int) (ha : Rg a) (hb : Rg b) (w : World) : (binOp .eql 107 (.agg #[.int .u32 (wd a 0), .int .u32 (wd a 1), .int .u32 (wd a 2), .int .u32 (wd a 3), .int .u32 (wd a 4), .int .u32 (wd a 5)]) (.agg #[.int .u32 (wd b 0), .int .u32 (wd b 1), .int .u32 (wd b 2), .int .u32 (wd b 3), .int .u32 (wd b 4), .int .u32 (wd b 5)])).run Tryd.prog w = .ok (.bool (decide (a = b))) w := by
  rw [run_eql_struct, eqc_num 9997, six_eq a b ha hb]; rfl
set_option maxRecDepth 100000 in
theorem eq_six (a b : Int) (ha : Rg a) (hb : Rg b) (w : World) : (binOp .eql 105 (.agg #[.int .u32 (wd a 0), .int .u32 (wd a 1), .int .u32 (wd a 2), .int .u32 (wd a 3), .int .u32 (wd a 4), .int .u32 (wd a 5)]) (.agg #[.int .u32 (wd b 0), .int .u32 (wd b 1), .int .u32 (wd b 2), .int .u32 (wd b 3), .int .u32 (wd b 4), .int .u32 (wd b 5)])).run Tryd.prog w = .ok (.bool (decide (a = b))) w := by
  rw [run_eql_struct, eqc_six 9998, six_eq a b ha hb]; rfl
end Go.Proofs.YtoiofbpmgihkfaaDoor
