/- matchguardref01.Make: the value of an array of bits. -/
import Derived.Test.YthfimcbjbkbcjaaRead
namespace Go.Proofs.Ythfimcbjbkbcjaa
open Go.RowKit

/-- The number of the first n bits of f. -/
def ofB (f : Nat → Bool) : Nat → Nat
  | 0 => 0
  | n + 1 => ofB f n ||| (if f n then 2 ^ n else 0)
theorem testBit_ofB (f : Nat → Bool) : ∀ (n i : Nat), (ofB f n).testBit i = (decide (i < n) && f i)
  | 0, i => by simp [ofB]
  | n + 1, i => by
    rw [ofB, Nat.testBit_or, testBit_ofB f n i]
    by_cases h : i = n
    · subst h
      cases f i <;> simp
    · have e : decide (i < n + 1) = decide (i < n) := by rw [decide_eq_decide]; omega
      rw [e]
      have h' : ¬ n = i := fun e => h e.symm
      cases f n <;> simp [h']
theorem ofB_lt (f : Nat → Bool) (n : Nat) : ofB f n < 2 ^ n := by
  apply Nat.lt_pow_two_of_testBit
  intro i hi
  rw [testBit_ofB]
  have : ¬ i < n := by omega
  simp [this]
/-- The value of 128 bits. -/
def ofBits (f : Nat → Bool) : Nat := ofB f 128
theorem ofBits_lt (f : Nat → Bool) : ofBits f < 2 ^ 128 := ofB_lt f 128
theorem testBit_ofBits (f : Nat → Bool) (i : Nat) : (ofBits f).testBit i = (decide (i < 128) && f i) := testBit_ofB f 128 i
theorem ofBits_eq {f : Nat → Bool} {n : Nat} (hn : n < 2 ^ 128) (h : ∀ i, i < 128 → f i = n.testBit i) : ofBits f = n := by
  apply Nat.eq_of_testBit_eq; intro i
  rw [testBit_ofBits]
  by_cases hi : i < 128
  · simp [hi, h i hi]
  · have := Nat.testBit_lt_two_pow (x := n) (i := i) (Nat.lt_of_lt_of_le hn (Nat.pow_le_pow_right (by decide) (by omega)))
    simp [hi, this]
theorem ofBits_congr {f g : Nat → Bool} (h : ∀ i, i < 128 → f i = g i) : ofBits f = ofBits g :=
  ofBits_eq (ofBits_lt g) fun i hi => by rw [h i hi, testBit_ofBits]; simp [hi]

/-- What Make has made after k rounds. -/
def mk (f : Nat → Bool) (k : Nat) : Nat := ofBits fun i => decide (i % 64 < k) && f i
theorem mk_0 (f : Nat → Bool) : mk f 0 = 0 := ofBits_eq (by decide) fun i _ => by simp
theorem mk_64 (f : Nat → Bool) : mk f 64 = ofBits f := ofBits_congr fun i _ => by
  have : i % 64 < 64 := by omega
  simp [this]
theorem two_pow_word (k : Nat) (hk : k < 64) : (2 ^ k : Nat) < 18446744073709551616 := by
  rw [p64]; exact Nat.pow_lt_pow_right (by decide) hk
theorem testBit_mk (f : Nat → Bool) (k i : Nat) (hi : i < 128) : (mk f k).testBit i = (decide (i % 64 < k) && f i) := by
  unfold mk
  rw [testBit_ofBits]
  simp [hi]
theorem mk_lo_yes (f : Nat → Bool) (k : Nat) (hk : k < 64) (h : f k = true) : bits .or .u64 (lo (mk f k)) (2 ^ k) = lo (mk f (k + 1)) := by
  unfold lo
  rw [show ((2 : Int) ^ k) = ((2 ^ k : Nat) : Int) by simp, u64_or_nat _ _ (Nat.mod_lt _ (by decide)) (two_pow_word k hk)]
  congr 1
  apply Nat.eq_of_testBit_eq; intro i
  rw [Nat.testBit_or, p64, Nat.testBit_mod_two_pow, Nat.testBit_mod_two_pow, Nat.testBit_two_pow]
  by_cases hi : i < 64
  · rw [testBit_mk f k i (by omega), testBit_mk f (k + 1) i (by omega)]
    by_cases e : k = i
    · subst e
      have : k % 64 < k + 1 := by omega
      simp [this, h, hk]
    · have e' : decide (i % 64 < k + 1) = decide (i % 64 < k) := by rw [decide_eq_decide]; omega
      rw [e']
      simp [e]
  · have e : ¬ k = i := by omega
    simp [hi, e]
theorem mk_lo_no (f : Nat → Bool) (k : Nat) (hk : k < 64) (h : f k = false) : lo (mk f k) = lo (mk f (k + 1)) := by
  unfold lo
  refine congrArg (fun n : Nat => (n : Int)) ?_
  apply Nat.eq_of_testBit_eq; intro i
  rw [p64, Nat.testBit_mod_two_pow, Nat.testBit_mod_two_pow]
  by_cases hi : i < 64
  · rw [testBit_mk f k i (by omega), testBit_mk f (k + 1) i (by omega)]
    by_cases e : k = i
    · subst e
      simp [h]
    · have e' : decide (i % 64 < k + 1) = decide (i % 64 < k) := by rw [decide_eq_decide]; omega
      rw [e']
  · simp [hi]
theorem mk_hi_yes (f : Nat → Bool) (k : Nat) (hk : k < 64) (h : f (k + 64) = true) : bits .or .u64 (hi (mk f k)) (2 ^ k) = hi (mk f (k + 1)) := by
  unfold hi
  rw [show ((2 : Int) ^ k) = ((2 ^ k : Nat) : Int) by simp, u64_or_nat _ _ (Nat.mod_lt _ (by decide)) (two_pow_word k hk)]
  congr 1
  apply Nat.eq_of_testBit_eq; intro i
  rw [Nat.testBit_or, p64, Nat.testBit_mod_two_pow, Nat.testBit_mod_two_pow, Nat.testBit_two_pow, Nat.testBit_div_two_pow, Nat.testBit_div_two_pow]
  by_cases hi : i < 64
  · rw [testBit_mk f k (i + 64) (by omega), testBit_mk f (k + 1) (i + 64) (by omega)]
    by_cases e : k = i
    · subst e
      have : (k + 64) % 64 < k + 1 := by omega
      rw [decide_eq_true this]
      simp [h, hk]
    · have e' : decide ((i + 64) % 64 < k + 1) = decide ((i + 64) % 64 < k) := by rw [decide_eq_decide]; omega
      rw [e']
      simp [e]
  · have e : ¬ k = i := by omega
    simp [hi, e]
theorem mk_hi_no (f : Nat → Bool) (k : Nat) (hk : k < 64) (h : f (k + 64) = false) : hi (mk f k) = hi (mk f (k + 1)) := by
  unfold hi
  refine congrArg (fun n : Nat => (n : Int)) ?_
  apply Nat.eq_of_testBit_eq; intro i
  rw [p64, Nat.testBit_mod_two_pow, Nat.testBit_mod_two_pow, Nat.testBit_div_two_pow, Nat.testBit_div_two_pow]
  by_cases hi : i < 64
  · rw [testBit_mk f k (i + 64) (by omega), testBit_mk f (k + 1) (i + 64) (by omega)]
    by_cases e : k = i
    · subst e
      simp [h]
    · have e' : decide ((i + 64) % 64 < k + 1) = decide ((i + 64) % 64 < k) := by rw [decide_eq_decide]; omega
      rw [e']
  · simp [hi]

theorem wrap_pow (k : Nat) (hk : k < 64) : IntKind.u64.wrap (2 ^ k) = 2 ^ k := by
  have := two_pow_word k hk
  rw [IntKind.wrap_u64, show ((2 : Int) ^ k) = ((2 ^ k : Nat) : Int) by simp]
  generalize 2 ^ k = n at this ⊢
  omega

/-- Where Make is: x and y are the words so far. -/
structure MakeAt (w : World) (f : Nat → Bool) (x y : Int) (w' : World) : Prop where
  below : Below w.heap.size w w'
  size : w.heap.size + 3 ≤ w'.heap.size
  arr : BitsAt w' w.heap.size f
  r0 : w'.cell? ⟨w.heap.size + 1, 0, none⟩ = some (.int .u64 0)
  r1 : w'.cell? ⟨w.heap.size + 1, 1, none⟩ = some (.int .u64 0)
  q0 : w'.frozen? ⟨w.heap.size + 1, 0, none⟩ = false
  q1 : w'.frozen? ⟨w.heap.size + 1, 1, none⟩ = false
  h0 : w'.cell? ⟨w.heap.size + 2, 0, none⟩ = some (.int .u64 x)
  h1 : w'.cell? ⟨w.heap.size + 2, 1, none⟩ = some (.int .u64 y)
  f0 : w'.frozen? ⟨w.heap.size + 2, 0, none⟩ = false
  f1 : w'.frozen? ⟨w.heap.size + 2, 1, none⟩ = false
theorem MakeAt.set0 {w : World} {f : Nat → Bool} {x y : Int} {w' : World} (h : MakeAt w f x y w') (z : Int) : MakeAt w f z y (w'.setCell ⟨w.heap.size + 1 + 1, 0, none⟩ (.int .u64 z)) where
  below := h.below.setCell (by simp; omega) _
  size := by have := h.size; simpa [World.setCell] using this
  arr := h.arr.far _ (by simp; omega) _
  r0 := by rw [World.cell?_setCell_far _ _ _ _ (by simp)]; exact h.r0
  r1 := by rw [World.cell?_setCell_far _ _ _ _ (by simp)]; exact h.r1
  q0 := by rw [World.frozen?_setCell]; exact h.q0
  q1 := by rw [World.frozen?_setCell]; exact h.q1
  h0 := World.cell?_setCell_same' _ _ _ (by rw [h.h0]; rfl)
  h1 := by rw [World.cell?_setCell_other _ _ _ _ (by simp)]; exact h.h1
  f0 := by rw [World.frozen?_setCell]; exact h.f0
  f1 := by rw [World.frozen?_setCell]; exact h.f1
theorem MakeAt.set1 {w : World} {f : Nat → Bool} {x y : Int} {w' : World} (h : MakeAt w f x y w') (z : Int) : MakeAt w f x z (w'.setCell ⟨w.heap.size + 1 + 1, 1, none⟩ (.int .u64 z)) where
  below := h.below.setCell (by simp; omega) _
  size := by have := h.size; simpa [World.setCell] using this
  arr := h.arr.far _ (by simp; omega) _
  r0 := by rw [World.cell?_setCell_far _ _ _ _ (by simp)]; exact h.r0
  r1 := by rw [World.cell?_setCell_far _ _ _ _ (by simp)]; exact h.r1
  q0 := by rw [World.frozen?_setCell]; exact h.q0
  q1 := by rw [World.frozen?_setCell]; exact h.q1
  h0 := by rw [World.cell?_setCell_other _ _ _ _ (by simp)]; exact h.h0
  h1 := World.cell?_setCell_same' _ _ _ (by rw [h.h1]; rfl)
  f0 := by rw [World.frozen?_setCell]; exact h.f0
  f1 := by rw [World.frozen?_setCell]; exact h.f1

set_option maxHeartbeats 1000000 in
theorem make_any (f : Nat → Bool) (w : World) :
    Calls Try.prog 66 #[.agg (bitsA f)] w (RetV (ofBits f) w) := by
  go_enter Try.func66, Try.ntmps66
  go_wp2
  go_loopw [4] (fun i w' => ∃ k : Nat, k ≤ 64 ∧ i = .int .i64 k ∧ MakeAt w f (hi (mk f k)) (lo (mk f k)) w') (fun i _ => 64 - (intOf i).toNat)
  case atStart =>
    refine ⟨0, by omega, rfl, ((((Below.refl _ _).alloc (by simp) _).alloc (by simp) _).alloc (by simp; omega) _), by simp, ?_, by simp [go_sem], by simp [go_sem], by simp [go_sem], by simp [go_sem], ?_, ?_, by simp [go_sem], by simp [go_sem]⟩
    · exact ((BitsAt.new w f _).past (by simp) _).past (by simp; omega) _
    · rw [mk_0]; simp [go_sem, hi]
    · rw [mk_0]; simp [go_sem, lo]
  case round =>
    obtain ⟨k, hk, rfl, hR⟩ := hrel
    by_cases hlt : (k : Int) < 64
    · have hk' : k < 64 := by omega
      have c0 := hR.h0
      have c1 := hR.h1
      have g0 := hR.f0
      have g1 := hR.f1
      have i0 : wr.cell? ⟨w.heap.size, k, none⟩ = some _ := hR.arr.cell k (by omega)
      have i1 : wr.cell? ⟨w.heap.size, k + 64, none⟩ = some _ := hR.arr.cell (k + 64) (by omega)
      cases h0 : f k <;> cases h1 : f (k + 64)
      all_goals
        rw [h0] at i0
        rw [h1] at i1
        have H0 := Lib.hid h0
        have H1 := Lib.hid h1
        clear h0 h1
        go_wp2
        go_roundw
      all_goals go_light
      all_goals try (case measure => simp [intOf]; omega)
      all_goals refine ⟨k + 1, by omega, by simp, ?_⟩
      all_goals try rw [wrap_pow k hk']
      · rw [← mk_lo_no f k hk' H0.out, ← mk_hi_no f k hk' H1.out]
        exact hR
      · rw [← mk_lo_no f k hk' H0.out, ← mk_hi_yes f k hk' H1.out]
        exact hR.set0 _
      · rw [← mk_lo_yes f k hk' H0.out, ← mk_hi_no f k hk' H1.out]
        exact hR.set1 _
      · rw [← mk_lo_yes f k hk' H0.out, ← mk_hi_yes f k hk' H1.out]
        exact (hR.set1 _).set0 _
    · have e : k = 64 := by omega
      subst e
      have c0 := hR.h0
      have c1 := hR.h1
      have g0 := hR.q0
      have g1 := hR.q1
      have r0 := hR.r0
      have r1 := hR.r1
      go_wp2
      go_light
      rw [← mk_64]
      refine bodyPost_ret (v := .agg #[.int .u64 (hi (mk f 64)), .int .u64 (lo (mk f 64))]) (by simp [results, Try.results66, go_sem, r0, r1]) rfl ⟨rfl, ?_⟩
      exact (hR.below.setCell (by simp) _).setCell (by simp) _
end Go.Proofs.Ythfimcbjbkbcjaa
