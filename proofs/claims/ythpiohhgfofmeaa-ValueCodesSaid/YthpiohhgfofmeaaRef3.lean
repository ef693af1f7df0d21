/- matchguardref01: Not, Left, Right: what they return. -/
import Derived.Test.YthpiohhgfofmeaaRef2
namespace Go.Proofs.Ythpiohhgfofmeaa
open Go.RowKit

/-- A boxed value in block p; the result's block r; an array in block x. -/
theorem OneAt.box (w : World) (t : TypeId) (x y : Value) (W : World) (hx : Below (w.heap.size + 2) ((w.alloc (.cells #[x, y] t)).alloc (.cells #[.int .u64 0, .int .u64 0] t)) W) (f : Nat → Bool) :
    OneAt w (w.heap.size + 1) W.heap.size f (W.alloc (.cells (bitsA f) 49)) := by
  have hs := hx.size
  simp at hs
  exact {
    below := (((Below.refl _ _).alloc (by simp) _).alloc (by simp) _).trans ((hx.mono (by omega)).alloc (by omega) _)
    nr := by omega
    nx := by omega
    ne := by omega
    lr := by simp; omega
    lx := by simp
    arr := BitsAt.new W f _
    r0 := by rw [World.cell?_alloc_past _ _ _ (by omega), hx.cell (p := ⟨_, _, none⟩) (by simp)]; simp [go_sem]
    r1 := by rw [World.cell?_alloc_past _ _ _ (by omega), hx.cell (p := ⟨_, _, none⟩) (by simp)]; simp [go_sem]
    q0 := by rw [World.frozen?_alloc_past _ _ _ (by omega), hx.frozen (p := ⟨_, _, none⟩) (by simp)]; simp [go_sem]
    q1 := by rw [World.frozen?_alloc_past _ _ _ (by omega), hx.frozen (p := ⟨_, _, none⟩) (by simp)]; simp [go_sem] }

theorem not_of (a : Nat) (k : Int) : ofBits (fun i => if i < 128 then decide (i < cl k) && !a.testBit i else a.testBit i) = ones k &&& compl a := by
  have hc := cl_le k
  refine ofBits_eq ?_ fun i hi => ?_
  · refine Nat.lt_of_le_of_lt Nat.and_le_left ?_
    unfold ones
    have := Nat.pow_le_pow_right (n := 2) (by decide) hc
    have := Nat.two_pow_pos (cl k)
    omega
  · rw [if_pos hi, Nat.testBit_and, ones, Nat.testBit_two_pow_sub_one, testBit_compl]
    simp [hi]
theorem step_if' (f h : Nat → Bool) (k i : Nat) : (if i < k + 1 then h i else f i) = if i = k then h k else (if i < k then h i else f i) := by
  by_cases e : i = k
  · subst e; simp
  · rw [if_neg e]
    by_cases h' : i < k
    · rw [if_pos h', if_pos (by omega)]
    · rw [if_neg h', if_neg (by omega)]

set_option maxRecDepth 100000 in
set_option maxHeartbeats 2000000 in
theorem rnot_any (a : Nat) (n : Int) (w : World) :
    Calls Try.prog 13 #[.agg #[.int .u64 (hi a), .int .u64 (lo a)], .int .i64 n] w (RetV (ones n &&& compl a) w) := by
  have hcn := cl_le n
  have HO := Lib.hid (not_of a n)
  go_enter Try.func13, Try.ntmps13
  go_wp2_with (first | (go_at_call 47; refine (read_any _ _).mono ?_; rintro e w1 ⟨rfl, hx⟩) | simp only [zero_bits] | refine wpList_store_newbits rfl rfl rfl rfl ?_)
  have hO := OneAt.box w _ _ _ w1 (hx.mono (by simp)) a.testBit
  generalize w1.alloc (.cells (bitsA a.testBit) 49) = W1 at hO ⊢
  generalize w1.heap.size = x at hO ⊢
  clear hx
  go_loopw [9] (fun i w' => ∃ k : Nat, k ≤ 128 ∧ i = .int .i64 k ∧ OneAt w (w.heap.size + 1) x (fun i => if i < k then decide (i < cl n) && !a.testBit i else a.testBit i) w') (fun i _ => 128 - (intOf i).toNat)
  case atStart => exact ⟨0, by omega, rfl, hO.congr fun i _ => by simp⟩
  case round =>
    obtain ⟨k, hk, rfl, hR⟩ := hrel
    clear hO
    by_cases hlt : (k : Int) < 128
    · have i0 : wr.cell? ⟨x, k, none⟩ = some _ := hR.arr.cell k (by omega)
      have f0 : wr.frozen? ⟨x, k, none⟩ = false := hR.arr.froz k (by omega)
      rw [if_neg (by omega)] at i0
      have hs := fun i => step_if' a.testBit (fun i => decide (i < cl n) && !a.testBit i) k i
      have Hs := Lib.hid hs
      clear hs
      by_cases hb : (k : Int) < cl n
      · have HB : Hid ((decide (k < cl n) && !a.testBit k) = !a.testBit k) := Lib.hid (by rw [decide_eq_true (by omega), Bool.true_and])
        go_wp2_with (go_at_call 45; refine (rclamp_any _ _).mono ?_; rintro e w' ⟨rfl, rfl⟩)
        go_roundw
        all_goals go_light
        case measure => simp [intOf]; omega
        refine ⟨k + 1, by omega, by simp, hR.put k (by omega) _ fun i _ => ?_⟩
        have := Hs.out i
        rw [HB.out] at this
        exact this
      · have HB : Hid ((decide (k < cl n) && !a.testBit k) = false) := Lib.hid (by rw [decide_eq_false (by omega), Bool.false_and])
        have hb' : decide ((k : Int) < cl n) = false := decide_eq_false hb
        have hb2 : (cl n : Int) ≤ k := by omega
        clear hb
        go_wp2_with (go_at_call 45; refine (rclamp_any _ _).mono ?_; rintro e w' ⟨rfl, rfl⟩)
        go_roundw
        all_goals go_light
        case measure => simp [intOf]; omega
        refine ⟨k + 1, by omega, by simp, hR.put k (by omega) _ fun i _ => ?_⟩
        have := Hs.out i
        rw [HB.out] at this
        exact this
    · have e : k = 128 := by omega
      subst e
      have nr := hR.nr
      go_wp2_with (first | refine wpList_load_bits rfl rfl rfl hR.arr ?_ | (go_at_call 46; refine (make_any _ _).mono ?_; rintro e w2 ⟨rfl, hx⟩; obtain ⟨r0, r1, q0, q1, hbl⟩ := hR.after hx))
      go_light
      rw [HO.out]
      refine bodyPost_ret (v := .agg #[.int .u64 (hi (ones n &&& compl a)), .int .u64 (lo (ones n &&& compl a))]) (by simp [results, Try.results13, go_sem, r0, r1]) rfl ⟨rfl, ?_⟩
      exact Below.setCell (Below.setCell hbl (by simp) _) (by simp) _

theorem OneAt.box2 (w : World) (t : TypeId) (x y : Value) (W : World) (hx : Below (w.heap.size + 2) ((w.alloc (.cells #[x, y] t)).alloc (.cells #[.int .u64 0, .int .u64 0] t)) W) (f : Nat → Bool) :
    OneAt w (w.heap.size + 1) (W.heap.size + 1) (fun _ => false) ((W.alloc (.cells (bitsA f) 49)).alloc (.cells (bitsA fun _ => false) 49)) := by
  have hs := hx.size
  simp at hs
  exact {
    below := (((Below.refl _ _).alloc (by simp) _).alloc (by simp) _).trans (((hx.mono (by omega)).alloc (by omega) _).alloc (by simp; omega) _)
    nr := by omega
    nx := by omega
    ne := by omega
    lr := by simp; omega
    lx := by simp
    arr := by
      have := BitsAt.new (W.alloc (.cells (bitsA f) 49)) (fun _ => false) 49
      simpa only [World.size_alloc] using this
    r0 := by rw [World.cell?_alloc_past _ _ _ (by simp; omega), World.cell?_alloc_past _ _ _ (by omega), hx.cell (p := ⟨_, _, none⟩) (by simp)]; simp [go_sem]
    r1 := by rw [World.cell?_alloc_past _ _ _ (by simp; omega), World.cell?_alloc_past _ _ _ (by omega), hx.cell (p := ⟨_, _, none⟩) (by simp)]; simp [go_sem]
    q0 := by rw [World.frozen?_alloc_past _ _ _ (by simp; omega), World.frozen?_alloc_past _ _ _ (by omega), hx.frozen (p := ⟨_, _, none⟩) (by simp)]; simp [go_sem]
    q1 := by rw [World.frozen?_alloc_past _ _ _ (by simp; omega), World.frozen?_alloc_past _ _ _ (by omega), hx.frozen (p := ⟨_, _, none⟩) (by simp)]; simp [go_sem] }
theorem BitsAt.src (W : World) (f : Nat → Bool) : BitsAt ((W.alloc (.cells (bitsA f) 49)).alloc (.cells (bitsA fun _ => false) 49)) W.heap.size f :=
  (BitsAt.new W f _).past (by simp) _

theorem vleft_cl (a : Nat) (n : Int) : vleft a (cl n) = vleft a n.toNat := by
  unfold vleft
  by_cases h : n ≤ 128
  · have : cl n = n.toNat := by unfold cl; omega
    rw [this]
  · have e : cl n = 128 := by unfold cl; omega
    obtain ⟨k, hk⟩ : ∃ k, n.toNat = 128 + k := ⟨n.toNat - 128, by omega⟩
    rw [e, hk, Nat.pow_add, ← Nat.mul_assoc, Nat.mul_mod_left, Nat.mul_right_comm, Nat.mul_mod_left]
theorem right_cl (a : Nat) (n : Int) (ha : a < 2 ^ 128) : a / 2 ^ cl n = a / 2 ^ n.toNat := by
  by_cases h : n ≤ 128
  · have : cl n = n.toNat := by unfold cl; omega
    rw [this]
  · have e : cl n = 128 := by unfold cl; omega
    rw [e, Nat.div_eq_of_lt ha, Nat.div_eq_of_lt (Nat.lt_of_lt_of_le ha (Nat.pow_le_pow_right (by decide) (by omega)))]
theorem left_of (a : Nat) (n : Int) (_ha : a < 2 ^ 128) : ofBits (fun i => decide (cl n ≤ i) && decide (i < 128) && a.testBit (i - cl n)) = vleft a n.toNat := by
  rw [← vleft_cl]
  refine ofBits_eq (Nat.mod_lt _ (by decide)) fun i hi => ?_
  rw [vleft, Nat.testBit_mod_two_pow, Nat.testBit_mul_two_pow]
  simp [hi]
theorem rright_of (a : Nat) (n : Int) (ha : a < 2 ^ 128) : ofBits (fun i => decide (i + cl n < 128) && a.testBit (i + cl n)) = a / 2 ^ n.toNat := by
  rw [← right_cl a n ha]
  refine ofBits_eq (Nat.lt_of_le_of_lt (Nat.div_le_self _ _) ha) fun i hi => ?_
  rw [Nat.testBit_div_two_pow]
  by_cases h : i + cl n < 128
  · simp [h]
  · have := Nat.testBit_lt_two_pow (x := a) (i := i + cl n) (Nat.lt_of_lt_of_le ha (Nat.pow_le_pow_right (by decide) (by omega)))
    simp [h, this]

set_option maxRecDepth 100000 in
set_option maxHeartbeats 2000000 in
theorem rleft_any (a : Nat) (n : Int) (ha : a < 2 ^ 128) (w : World) :
    Calls Try.prog 28 #[.agg #[.int .u64 (hi a), .int .u64 (lo a)], .int .i64 n] w (RetV (vleft a n.toNat) w) := by
  have hm := cl_le n
  have HO := Lib.hid (left_of a n ha)
  clear ha
  go_enter Try.func28, Try.ntmps28
  go_upto_region 2 with (first | (go_at_call 47; refine (read_any _ _).mono ?_; rintro e w1 ⟨rfl, hx⟩) | simp only [zero_bits] | refine wpList_store_newbits rfl rfl rfl rfl ?_)
  go_upto_region 4 with (first | simp only [zero_bits] | (go_at_call 45; refine (rclamp_any _ _).mono ?_; rintro e w' ⟨rfl, rfl⟩))
  generalize hcl : cl n = m at hm HO ⊢
  clear hcl
  have hO := OneAt.box2 w _ _ _ w1 (hx.mono (by simp)) a.testBit
  have hS := BitsAt.src w1 a.testBit
  have hne : w1.heap.size ≠ w1.heap.size + 1 := by omega
  have hlx : w.heap.size ≤ w1.heap.size := by have := hx.size; simp at this; omega
  generalize (w1.alloc (.cells (bitsA a.testBit) 49)).alloc (.cells (bitsA fun _ => false) 49) = W1 at hO hS ⊢
  generalize w1.heap.size + 1 = y at hO hne ⊢
  generalize w1.heap.size = x at hS hne hlx ⊢
  clear hx
  go_wp2
  go_loopw [7] (fun i w' => ∃ k : Nat, m ≤ k ∧ k ≤ 128 ∧ i = .int .i64 k ∧ OneAt w (w.heap.size + 1) y (fun i => decide (m ≤ i) && decide (i < k) && a.testBit (i - m)) w' ∧ BitsAt w' x a.testBit) (fun i _ => 128 - (intOf i).toNat)
  case atStart => exact ⟨m, Nat.le_refl _, hm, rfl, hO.congr (fun i _ => by simp; omega), hS⟩
  case round =>
    obtain ⟨k, hk0, hk, rfl, hR, hX⟩ := hrel
    clear hO hS
    by_cases hlt : (k : Int) < 128
    · obtain ⟨j, rfl⟩ : ∃ j, k = m + j := ⟨k - m, by omega⟩
      have sub : ((m + j : Nat) : Int) - (m : Int) = (j : Int) := by omega
      have i0 : wr.cell? ⟨x, j, none⟩ = some _ := hX.cell (j) (by omega)
      have i1 : wr.cell? ⟨y, m + j, none⟩ = some _ := hR.arr.cell (m + j) (by omega)
      have f0 : wr.frozen? ⟨y, m + j, none⟩ = false := hR.arr.froz (m + j) (by omega)
      have b1 : (j : Int) < 128 := by omega
      have b2 : 0 ≤ (j : Int) := by omega
      go_wp2_with (simp only [sub])
      go_roundw
      all_goals go_light
      case measure => simp [intOf]; omega
      refine ⟨m + j + 1, by omega, by omega, by simp, hR.put (m + j) (by omega) _ (fun i _ => ?_), hX.far _ (fun e => hne e.symm) _⟩
      by_cases h : i = m + j
      · subst h; simp
      · rw [if_neg h]; congr 2; rw [decide_eq_decide]; omega
    · have e : k = 128 := by omega
      subst e
      have nr := hR.nr
      go_wp2_with (first | refine wpList_load_bits rfl rfl rfl hR.arr ?_ | (go_at_call 46; refine (make_any _ _).mono ?_; rintro e w2 ⟨rfl, hx⟩; obtain ⟨r0, r1, q0, q1, hbl⟩ := hR.after hx))
      go_light
      rw [HO.out]
      refine bodyPost_ret (v := .agg #[.int .u64 (hi (vleft a n.toNat)), .int .u64 (lo (vleft a n.toNat))]) (by simp [results, Try.results28, go_sem, r0, r1]) rfl ⟨rfl, ?_⟩
      exact Below.setCell (Below.setCell hbl (by simp) _) (by simp) _

set_option maxRecDepth 100000 in
set_option maxHeartbeats 2000000 in
theorem rright_any (a : Nat) (n : Int) (ha : a < 2 ^ 128) (w : World) :
    Calls Try.prog 30 #[.agg #[.int .u64 (hi a), .int .u64 (lo a)], .int .i64 n] w (RetV (a / 2 ^ n.toNat) w) := by
  have hm := cl_le n
  have HO := Lib.hid (rright_of a n ha)
  clear ha
  go_enter Try.func30, Try.ntmps30
  go_upto_region 2 with (first | (go_at_call 47; refine (read_any _ _).mono ?_; rintro e w1 ⟨rfl, hx⟩) | simp only [zero_bits] | refine wpList_store_newbits rfl rfl rfl rfl ?_)
  go_upto_region 4 with (first | simp only [zero_bits] | (go_at_call 45; refine (rclamp_any _ _).mono ?_; rintro e w' ⟨rfl, rfl⟩))
  generalize hcl : cl n = m at hm HO ⊢
  clear hcl
  have hO := OneAt.box2 w _ _ _ w1 (hx.mono (by simp)) a.testBit
  have hS := BitsAt.src w1 a.testBit
  have hne : w1.heap.size ≠ w1.heap.size + 1 := by omega
  have hlx : w.heap.size ≤ w1.heap.size := by have := hx.size; simp at this; omega
  generalize (w1.alloc (.cells (bitsA a.testBit) 49)).alloc (.cells (bitsA fun _ => false) 49) = W1 at hO hS ⊢
  generalize w1.heap.size + 1 = y at hO hne ⊢
  generalize w1.heap.size = x at hS hne hlx ⊢
  clear hx
  go_wp2
  go_loopw [7] (fun i w' => ∃ k : Nat, m ≤ k ∧ k ≤ 128 ∧ i = .int .i64 k ∧ OneAt w (w.heap.size + 1) y (fun i => decide (i + m < k) && a.testBit (i + m)) w' ∧ BitsAt w' x a.testBit) (fun i _ => 128 - (intOf i).toNat)
  case atStart => exact ⟨m, Nat.le_refl _, hm, rfl, hO.congr (fun i _ => by simp; omega), hS⟩
  case round =>
    obtain ⟨k, hk0, hk, rfl, hR, hX⟩ := hrel
    clear hO hS
    by_cases hlt : (k : Int) < 128
    · obtain ⟨j, rfl⟩ : ∃ j, k = m + j := ⟨k - m, by omega⟩
      have sub : ((m + j : Nat) : Int) - (m : Int) = (j : Int) := by omega
      have i0 : wr.cell? ⟨x, m + j, none⟩ = some _ := hX.cell (m + j) (by omega)
      have i1 : wr.cell? ⟨y, j, none⟩ = some _ := hR.arr.cell (j) (by omega)
      have f0 : wr.frozen? ⟨y, j, none⟩ = false := hR.arr.froz (j) (by omega)
      have b1 : (j : Int) < 128 := by omega
      have b2 : 0 ≤ (j : Int) := by omega
      go_wp2_with (simp only [sub])
      go_roundw
      all_goals go_light
      case measure => simp [intOf]; omega
      refine ⟨m + j + 1, by omega, by omega, by simp, hR.put (j) (by omega) _ (fun i _ => ?_), hX.far _ (fun e => hne e.symm) _⟩
      by_cases h : i = j
      · subst h; rw [if_pos rfl, decide_eq_true (by omega), Bool.true_and, Nat.add_comm]
      · rw [if_neg h]; congr 1; rw [decide_eq_decide]; omega
    · have e : k = 128 := by omega
      subst e
      have nr := hR.nr
      go_wp2_with (first | refine wpList_load_bits rfl rfl rfl hR.arr ?_ | (go_at_call 46; refine (make_any _ _).mono ?_; rintro e w2 ⟨rfl, hx⟩; obtain ⟨r0, r1, q0, q1, hbl⟩ := hR.after hx))
      go_light
      rw [HO.out]
      refine bodyPost_ret (v := .agg #[.int .u64 (hi (a / 2 ^ n.toNat)), .int .u64 (lo (a / 2 ^ n.toNat))]) (by simp [results, Try.results30, go_sem, r0, r1]) rfl ⟨rfl, ?_⟩
      exact Below.setCell (Below.setCell hbl (by simp) _) (by simp) _
end Go.Proofs.Ythpiohhgfofmeaa
