/- The law ValueShifts: its walk. -/
import Derived.Test.YthpiohhgfofmeaaRef4
import Derived.Test.YthpiohhgfofmeaaBegun
import Derived.Deep.DeepCutAuto
namespace Go.Proofs.Ythpiohhgfofmeaa
open Go.RowKit

/-- A boxed value, and a row of numbers of bits. -/
structure LawAt1 (w : World) (a m : Nat) (ks : Nat → Int) (w' : World) : Prop where
  below : Below w.heap.size w w'
  size : w.heap.size + 2 ≤ w'.heap.size
  a0 : w'.cell? ⟨w.heap.size, 0, none⟩ = some (.int .u64 (hi a))
  a1 : w'.cell? ⟨w.heap.size, 1, none⟩ = some (.int .u64 (lo a))
  row : ∀ j, j < m → w'.cell? ⟨w.heap.size + 1, j, none⟩ = some (.int .i64 (ks j))
theorem LawAt1.step {w : World} {a m : Nat} {ks : Nat → Int} {W W' : World} (h : LawAt1 w a m ks W) (hx : Below W.heap.size W W') : LawAt1 w a m ks W' := by
  have hs := h.size
  exact {
    below := h.below.trans (hx.mono h.below.size)
    size := Nat.le_trans hs hx.size
    a0 := by rw [hx.cell (p := ⟨_, _, none⟩) (by simp; omega)]; exact h.a0
    a1 := by rw [hx.cell (p := ⟨_, _, none⟩) (by simp; omega)]; exact h.a1
    row := fun j hj => by rw [hx.cell (p := ⟨_, _, none⟩) (by simp; omega)]; exact h.row j hj }
theorem keep1 {W0 W : World} {p : Nat} {x0 x1 : Value} (hp : p < W0.heap.size) (c0 : W0.cell? ⟨p, 0, none⟩ = some x0) (c1 : W0.cell? ⟨p, 1, none⟩ = some x1) (hb : Below W0.heap.size W0 W) :
    Below W0.heap.size W0 W ∧ W.cell? ⟨p, 0, none⟩ = some x0 ∧ W.cell? ⟨p, 1, none⟩ = some x1 :=
  ⟨hb, by rw [hb.cell (p := ⟨_, _, none⟩) hp]; exact c0, by rw [hb.cell (p := ⟨_, _, none⟩) hp]; exact c1⟩
theorem belowCall {W0 W W' : World} {R : Prop} (hx : Below W.heap.size W W') (h : Below W0.heap.size W0 W ∧ R) : Below W0.heap.size W0 W' := h.1.trans (hx.mono h.1.size)
theorem i64_and_le (x y : Int) : bits .and .i64 x y ≤ 9223372036854775807 := by
  show IntKind.i64.wrap _ ≤ _
  rw [IntKind.wrap_i64]
  omega

set_option maxRecDepth 100000 in
set_option maxHeartbeats 4000000 in
theorem shiftslaw_any (a : Nat) (n : Int) (ha : a < 2 ^ 128) (hn : n ≤ 9223372036854775807) (w : World) :
    Calls Try.prog 5 #[.agg #[.int .u64 (hi a), .int .u64 (lo a)], .int .i64 n] w (RetX (.bool true) w) := by
  have HA := Lib.hid ha
  have HN := Lib.hid hn
  have HK := Lib.hid (i64_and_le n 127)
  clear ha hn
  go_enter Try.func5, Try.ntmps5
  go_wp2
  generalize bits .and .i64 n 127 = k1 at HK ⊢
  go_loopw [12] (fun i w' => ∃ j : Nat, j ≤ 6 ∧ i = .int .i64 j ∧ LawAt1 w a 6 (fun j => [n, k1, 64, 63, 127, 128].getD j 0) w') (fun i _ => 6 - (intOf i).toNat)
  case atStart =>
    refine ⟨0, by omega, rfl, ((Below.refl _ _).alloc (by simp) _).alloc (by simp) _, by simp, by simp [go_sem], by simp [go_sem], fun j hj => ?_⟩
    have : j = 0 ∨ j = 1 ∨ j = 2 ∨ j = 3 ∨ j = 4 ∨ j = 5 := by omega
    rcases this with rfl | rfl | rfl | rfl | rfl | rfl <;> simp [go_sem]
  case round =>
    obtain ⟨j, hj, rfl, hR⟩ := hrel
    have hs := hR.size
    have hp : w.heap.size < wr.heap.size := by omega
    have c0 := hR.a0
    have c1 := hR.a1
    by_cases hlt : (j : Int) < 6
    · have i0 := hR.row j (by omega)
      have hq : [n, k1, 64, 63, 127, 128].getD j 0 ≤ 9223372036854775807 := by
        have hn := HN.out
        have hk := HK.out
        have : j = 0 ∨ j = 1 ∨ j = 2 ∨ j = 3 ∨ j = 4 ∨ j = 5 := by omega
        rcases this with rfl | rfl | rfl | rfl | rfl | rfl <;> simp <;> assumption
      generalize [n, k1, 64, 63, 127, 128].getD j 0 = q at i0 hq
      have HQ := Lib.hid hq
      clear hq
      go_wp2
      go_region_held3 (fun w' => Below wr.heap.size wr w' ∧ w'.cell? ⟨w.heap.size, 0, none⟩ = some (.int .u64 (hi a)) ∧ w'.cell? ⟨w.heap.size, 1, none⟩ = some (.int .u64 (lo a)))
        (first
          | exact keep1 hp c0 c1 (Below.drew (Below.refl _ _))
          | exact keep1 hp c0 c1 (belowCall (by assumption) (by assumption)))
        (first
          | (go_at_call 27; refine (left_any _ _ HA.out HQ.out _).mono ?_; rintro e w' ⟨rfl, hx⟩)
          | (go_at_call 28; refine (rleft_any _ _ HA.out _).mono ?_; rintro e w' ⟨rfl, hx⟩)
          | (go_at_call 29; refine (right_any _ _ HA.out HQ.out _).mono ?_; rintro e w' ⟨rfl, hx⟩)
          | (go_at_call 30; refine (rright_any _ _ HA.out _).mono ?_; rintro e w' ⟨rfl, hx⟩)
          | (go_at_call 31; refine (bit_any _ _ HA.out HQ.out _).mono ?_; rintro e w' ⟨rfl, hx⟩)
          | (go_at_call 32; refine (rbit_any _ _ HA.out _).mono ?_; rintro e w' ⟨rfl, hx⟩)
          | (go_at_call 33; refine (fits_any _ _ HA.out _).mono ?_; rintro e w' ⟨rfl, hx⟩)
          | (go_at_call 34; refine (rfits_any _ _ HA.out _).mono ?_; rintro e w' ⟨rfl, hx⟩))
      go_wp2
      go_roundw
      all_goals have hB := And.left (by assumption : Below wr.heap.size wr _ ∧ _)
      all_goals go_light
      case measure => simp [intOf]; omega
      exact ⟨j + 1, by omega, by simp, hR.step hB⟩
    · have e : j = 6 := by omega
      subst e
      go_wp2
      go_region_held3 (fun w' => Below wr.heap.size wr w' ∧ w'.cell? ⟨w.heap.size, 0, none⟩ = some (.int .u64 (hi a)) ∧ w'.cell? ⟨w.heap.size, 1, none⟩ = some (.int .u64 (lo a)))
        (first
          | exact keep1 hp c0 c1 (Below.drew (Below.refl _ _))
          | exact keep1 hp c0 c1 (belowCall (by assumption) (by assumption)))
        (first
          | (go_at_call 35; refine (len_any _ HA.out _).mono ?_; rintro e w' ⟨rfl, hx⟩)
          | (go_at_call 36; refine (rlen_any _ HA.out _).mono ?_; rintro e w' ⟨rfl, hx⟩)
          | (go_at_call 22; refine (begun_any _).mono ?_; rintro e w' ⟨rfl, hx⟩))
      go_wp2
      go_ret
      exact ⟨rfl, hR.below.trans ((And.left (by assumption : Below wr.heap.size wr _ ∧ _)).mono hR.below.size)⟩
end Go.Proofs.Ythpiohhgfofmeaa
