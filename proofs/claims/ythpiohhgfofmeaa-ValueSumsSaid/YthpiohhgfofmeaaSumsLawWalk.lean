/- The law ValueSums: its walk. -/
import Derived.Test.YthpiohhgfofmeaaSums
namespace Go.Proofs.Ythpiohhgfofmeaa
open Go.RowKit

/-- Two boxed values, and a row of numbers of bits. -/
structure LawAt (w : World) (a b m : Nat) (ks : Nat → Int) (w' : World) : Prop where
  below : Below w.heap.size w w'
  size : w.heap.size + 3 ≤ w'.heap.size
  a0 : w'.cell? ⟨w.heap.size, 0, none⟩ = some (.int .u64 (hi a))
  a1 : w'.cell? ⟨w.heap.size, 1, none⟩ = some (.int .u64 (lo a))
  b0 : w'.cell? ⟨w.heap.size + 1, 0, none⟩ = some (.int .u64 (hi b))
  b1 : w'.cell? ⟨w.heap.size + 1, 1, none⟩ = some (.int .u64 (lo b))
  row : ∀ j, j < m → w'.cell? ⟨w.heap.size + 2, j, none⟩ = some (.int .i64 (ks j))
theorem LawAt.step {w : World} {a b m : Nat} {ks : Nat → Int} {W W' : World} (h : LawAt w a b m ks W) (hx : Below W.heap.size W W') : LawAt w a b m ks W' := by
  have hs := h.size
  exact {
    below := h.below.trans (hx.mono h.below.size)
    size := Nat.le_trans hs hx.size
    a0 := by rw [hx.cell (p := ⟨_, _, none⟩) (by simp; omega)]; exact h.a0
    a1 := by rw [hx.cell (p := ⟨_, _, none⟩) (by simp; omega)]; exact h.a1
    b0 := by rw [hx.cell (p := ⟨_, _, none⟩) (by simp; omega)]; exact h.b0
    b1 := by rw [hx.cell (p := ⟨_, _, none⟩) (by simp; omega)]; exact h.b1
    row := fun j hj => by rw [hx.cell (p := ⟨_, _, none⟩) (by simp; omega)]; exact h.row j hj }

/-- The sum and the difference, under names that no evaluation opens. -/
theorem oadd_exists (k : Int) (a b : Nat) : ∃ n : Nat, n = vadd k a b := ⟨_, rfl⟩
noncomputable def oadd (k : Int) (a b : Nat) : Nat := (oadd_exists k a b).choose
theorem oadd_eq (k : Int) (a b : Nat) : oadd k a b = vadd k a b := (oadd_exists k a b).choose_spec
theorem osub_exists (k : Int) (a b : Nat) : ∃ n : Nat, n = vsub k a b := ⟨_, rfl⟩
noncomputable def osub (k : Int) (a b : Nat) : Nat := (osub_exists k a b).choose
theorem osub_eq (k : Int) (a b : Nat) : osub k a b = vsub k a b := (osub_exists k a b).choose_spec
theorem add_o (k : Int) (a b : Nat) (w : World) :
    Calls Try.prog 23 #[.agg #[.int .u64 (hi a), .int .u64 (lo a)], .agg #[.int .u64 (hi b), .int .u64 (lo b)], .int .i64 k] w (RetV (oadd k a b) w) := by
  rw [oadd_eq]; exact add_val k a b w
theorem sub_o (k : Int) (a b : Nat) (ha : a < 2 ^ 128) (hb : b < 2 ^ 128) (w : World) :
    Calls Try.prog 25 #[.agg #[.int .u64 (hi a), .int .u64 (lo a)], .agg #[.int .u64 (hi b), .int .u64 (lo b)], .int .i64 k] w (RetV (osub k a b) w) := by
  rw [osub_eq]; exact sub_val k a b ha hb w
theorem radd_o (k : Int) (a b : Nat) (ha : a < 2 ^ 128) (hb : b < 2 ^ 128) (w : World) :
    Calls Try.prog 24 #[.agg #[.int .u64 (hi a), .int .u64 (lo a)], .agg #[.int .u64 (hi b), .int .u64 (lo b)], .int .i64 k] w (RetV (oadd k a b) w) := by
  rw [oadd_eq]; exact radd_any a b k ha hb w
theorem rsub_o (k : Int) (a b : Nat) (ha : a < 2 ^ 128) (hb : b < 2 ^ 128) (w : World) :
    Calls Try.prog 26 #[.agg #[.int .u64 (hi a), .int .u64 (lo a)], .agg #[.int .u64 (hi b), .int .u64 (lo b)], .int .i64 k] w (RetV (osub k a b) w) := by
  rw [osub_eq]; exact rsub_any a b k ha hb w

set_option maxRecDepth 100000 in
set_option maxHeartbeats 4000000 in
theorem sumslaw_any (a b : Nat) (n : Int) (ha : a < 2 ^ 128) (hb : b < 2 ^ 128) (w : World) :
    Calls Try.prog 4 #[.agg #[.int .u64 (hi a), .int .u64 (lo a)], .agg #[.int .u64 (hi b), .int .u64 (lo b)], .int .i64 n] w (RetX (.bool true) w) := by
  have HA := Lib.hid ha
  have HB := Lib.hid hb
  clear ha hb
  go_enter Try.func4, Try.ntmps4
  go_wp2
  generalize bits .and .i64 n 127 = k1
  go_loopw [14] (fun i w' => ∃ j : Nat, j ≤ 5 ∧ i = .int .i64 j ∧ LawAt w a b 5 (fun j => [n, k1, 128, 64, 65].getD j 0) w') (fun i _ => 5 - (intOf i).toNat)
  case atStart =>
    refine ⟨0, by omega, rfl, (((Below.refl _ _).alloc (by simp) _).alloc (by simp) _).alloc (by simp; omega) _, by simp, by simp [go_sem], by simp [go_sem], by simp [go_sem], by simp [go_sem], fun j hj => ?_⟩
    have : j = 0 ∨ j = 1 ∨ j = 2 ∨ j = 3 ∨ j = 4 := by omega
    rcases this with rfl | rfl | rfl | rfl | rfl <;> simp [go_sem]
  case round =>
    obtain ⟨j, hj, rfl, hR⟩ := hrel
    have hs := hR.size
    have hp : w.heap.size < wr.heap.size := by omega
    have hq : w.heap.size + 1 < wr.heap.size := by omega
    have c0 := hR.a0
    have c1 := hR.a1
    have c2 := hR.b0
    have c3 := hR.b1
    by_cases hlt : (j : Int) < 5
    · have i0 := hR.row j (by omega)
      generalize [n, k1, 128, 64, 65].getD j 0 = q at i0
      go_wp2
      go_region_held3 (fun w' => Below wr.heap.size wr w' ∧ w'.cell? ⟨w.heap.size, 0, none⟩ = some (.int .u64 (hi a)) ∧ w'.cell? ⟨w.heap.size, 1, none⟩ = some (.int .u64 (lo a)) ∧
          w'.cell? ⟨w.heap.size + 1, 0, none⟩ = some (.int .u64 (hi b)) ∧ w'.cell? ⟨w.heap.size + 1, 1, none⟩ = some (.int .u64 (lo b)))
        (first
          | exact keep2 hp hq c0 c1 c2 c3 (Below.drew (Below.refl _ _))
          | exact keep2 hp hq c0 c1 c2 c3 (belowCall (by assumption) (by assumption)))
        (first
          | (go_at_call 23; refine (add_o _ _ _ _).mono ?_; rintro e w' ⟨rfl, hx⟩)
          | (go_at_call 24; refine (radd_o _ _ _ HA.out HB.out _).mono ?_; rintro e w' ⟨rfl, hx⟩)
          | (go_at_call 25; refine (sub_o _ _ _ HA.out HB.out _).mono ?_; rintro e w' ⟨rfl, hx⟩)
          | (go_at_call 26; refine (rsub_o _ _ _ HA.out HB.out _).mono ?_; rintro e w' ⟨rfl, hx⟩))
      go_wp2
      go_roundw
      all_goals have hB := And.left (by assumption : Below wr.heap.size wr _ ∧ _)
      all_goals go_light
      case measure => simp [intOf]; omega
      exact ⟨j + 1, by omega, by simp, hR.step hB⟩
    · have e : j = 5 := by omega
      subst e
      go_wp2_with (go_at_call 22; refine (begun_any _).mono ?_; rintro e w' ⟨rfl, hx⟩)
      go_ret
      exact ⟨rfl, hR.below.trans (hx.mono hR.below.size)⟩
end Go.Proofs.Ythpiohhgfofmeaa
