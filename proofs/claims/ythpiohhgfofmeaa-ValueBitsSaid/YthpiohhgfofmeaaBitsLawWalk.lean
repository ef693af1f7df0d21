/- The law ValueBits: its walk. -/
import Derived.Test.YthpiohhgfofmeaaRef
import Derived.Test.YthpiohhgfofmeaaRef3
import Derived.Test.YthpiohhgfofmeaaBegun
import Derived.Deep.DeepCutAuto
namespace Go.Proofs.Ythpiohhgfofmeaa
open Go.RowKit

/-- Two boxed values, and a row of numbers of bits. -/
structure LawAt (w : World) (a b m : Nat) (ks : Nat → Int) (w' : World) : Prop where
  below : Below w.heap.size w w'
  size : w.heap.size + 3 ≤ w'.heap.size
  a0 : w'.cell? ⟨w.heap.size, 0, none⟩ = some (.int .u64 (hi a))
  a1 : w'.cell? ⟨w.heap.size, 1, none⟩ = some (.int .u64 (lo a))
  b0 : w'.cell? ⟨w.heap.size + 1, 0, none⟩ = some (.int .u64 (hi b))
  b1 : w'.cell? ⟨w.heap.size + 1, 1, none⟩ = some (.int .u64 (lo b))
  row : ∀ j, j < m → w'.cell? ⟨w.heap.size + 2, j, none⟩ = some (.int .i64 (ks j))
theorem LawAt.step {w : World} {a b m : Nat} {ks : Nat → Int} {W W' : World} (h : LawAt w a b m ks W) (hx : Below W.heap.size W W') : LawAt w a b m ks W' := by
  have hs := h.size
  exact {
    below := h.below.trans (hx.mono h.below.size)
    size := Nat.le_trans hs hx.size
    a0 := by rw [hx.cell (p := ⟨_, _, none⟩) (by simp; omega)]; exact h.a0
    a1 := by rw [hx.cell (p := ⟨_, _, none⟩) (by simp; omega)]; exact h.a1
    b0 := by rw [hx.cell (p := ⟨_, _, none⟩) (by simp; omega)]; exact h.b0
    b1 := by rw [hx.cell (p := ⟨_, _, none⟩) (by simp; omega)]; exact h.b1
    row := fun j hj => by rw [hx.cell (p := ⟨_, _, none⟩) (by simp; omega)]; exact h.row j hj }
theorem keep1 {W0 W : World} {p : Nat} {x0 x1 : Value} (hp : p < W0.heap.size) (c0 : W0.cell? ⟨p, 0, none⟩ = some x0) (c1 : W0.cell? ⟨p, 1, none⟩ = some x1) (hb : Below W0.heap.size W0 W) :
    Below W0.heap.size W0 W ∧ W.cell? ⟨p, 0, none⟩ = some x0 ∧ W.cell? ⟨p, 1, none⟩ = some x1 :=
  ⟨hb, by rw [hb.cell (p := ⟨_, _, none⟩) hp]; exact c0, by rw [hb.cell (p := ⟨_, _, none⟩) hp]; exact c1⟩

set_option maxRecDepth 100000 in
set_option maxHeartbeats 4000000 in
theorem bitslaw_any (a b : Nat) (k n : Int) (ha : a < 2 ^ 128) (hb : b < 2 ^ 128) (w : World) :
    Calls Try.prog 3 #[.agg #[.int .u64 (hi a), .int .u64 (lo a)], .agg #[.int .u64 (hi b), .int .u64 (lo b)], .int .i64 k, .int .i64 n] w (RetX (.bool true) w) := by
  go_enter Try.func3, Try.ntmps3
  go_wp2
  generalize bits .and .i64 k 127 = k1
  generalize bits .and .i64 n 127 = k2
  go_loopw [18] (fun i w' => ∃ j : Nat, j ≤ 3 ∧ i = .int .i64 j ∧ LawAt w a b 3 (fun j => [k, k1, k2].getD j 0) w') (fun i _ => 3 - (intOf i).toNat)
  case atStart =>
    refine ⟨0, by omega, rfl, (((Below.refl _ _).alloc (by simp) _).alloc (by simp) _).alloc (by simp; omega) _, by simp, by simp [go_sem], by simp [go_sem], by simp [go_sem], by simp [go_sem], fun j hj => ?_⟩
    have : j = 0 ∨ j = 1 ∨ j = 2 := by omega
    rcases this with rfl | rfl | rfl <;> simp [go_sem]
  case round =>
    obtain ⟨j, hj, rfl, hR⟩ := hrel
    have hs := hR.size
    have hp : w.heap.size < wr.heap.size := by omega
    have hq : w.heap.size + 1 < wr.heap.size := by omega
    have c0 := hR.a0
    have c1 := hR.a1
    by_cases hlt : (j : Int) < 3
    · have i0 := hR.row j (by omega)
      generalize [k, k1, k2].getD j 0 = q at i0
      go_wp2
      go_region_held3 (fun w' => Below wr.heap.size wr w' ∧ w'.cell? ⟨w.heap.size, 0, none⟩ = some (.int .u64 (hi a)) ∧ w'.cell? ⟨w.heap.size, 1, none⟩ = some (.int .u64 (lo a)))
        (first
          | exact keep1 hp c0 c1 (Below.drew (Below.refl _ _))
          | exact keep1 hp c0 c1 (belowCall (by assumption) (by assumption)))
        (first
          | (go_at_call 10; refine (ones_any _ _).mono ?_; rintro e w' ⟨rfl, hx⟩)
          | (go_at_call 11; refine (rones_any _ _).mono ?_; rintro e w' ⟨rfl, hx⟩)
          | (go_at_call 12; refine (not_any _ _ _).mono ?_; rintro e w' ⟨rfl, hx⟩)
          | (go_at_call 13; refine (rnot_any _ _ _).mono ?_; rintro e w' ⟨rfl, hx⟩)
          | (go_at_call 14; refine (leading_any _ _ _).mono ?_; rintro e w' ⟨rfl, hx⟩)
          | (go_at_call 15; refine (rleading_any _ _ _).mono ?_; rintro e w' ⟨rfl, hx⟩))
      go_wp2
      go_roundw
      all_goals have hB := And.left (by assumption : Below wr.heap.size wr _ ∧ _)
      all_goals go_light
      case measure => simp [intOf]; omega
      exact ⟨j + 1, by omega, by simp, hR.step hB⟩
    · have c2 := hR.b0
      have c3 := hR.b1
      have e : j = 3 := by omega
      subst e
      go_wp2
      go_region_held3 (fun w' => Below wr.heap.size wr w' ∧ w'.cell? ⟨w.heap.size, 0, none⟩ = some (.int .u64 (hi a)) ∧ w'.cell? ⟨w.heap.size, 1, none⟩ = some (.int .u64 (lo a)) ∧
          w'.cell? ⟨w.heap.size + 1, 0, none⟩ = some (.int .u64 (hi b)) ∧ w'.cell? ⟨w.heap.size + 1, 1, none⟩ = some (.int .u64 (lo b)))
        (first
          | exact keep2 hp hq c0 c1 c2 c3 (Below.drew (Below.refl _ _))
          | exact keep2 hp hq c0 c1 c2 c3 (belowCall (by assumption) (by assumption)))
        (first
          | (go_at_call 16; refine (and_any _ _ _).mono ?_; rintro e w' ⟨rfl, hx⟩)
          | (go_at_call 17; refine (rand_any _ _ ha hb _).mono ?_; rintro e w' ⟨rfl, hx⟩)
          | (go_at_call 18; refine (or_any _ _ _).mono ?_; rintro e w' ⟨rfl, hx⟩)
          | (go_at_call 19; refine (ror_any _ _ ha hb _).mono ?_; rintro e w' ⟨rfl, hx⟩)
          | (go_at_call 20; refine (xor_any _ _ _).mono ?_; rintro e w' ⟨rfl, hx⟩)
          | (go_at_call 21; refine (rxor_any _ _ ha hb _).mono ?_; rintro e w' ⟨rfl, hx⟩)
          | (go_at_call 22; refine (begun_any _).mono ?_; rintro e w' ⟨rfl, hx⟩))
      go_wp2
      go_ret
      exact ⟨rfl, hR.below.trans ((And.left (by assumption : Below wr.heap.size wr _ ∧ _)).mono hR.below.size)⟩
end Go.Proofs.Ythpiohhgfofmeaa
