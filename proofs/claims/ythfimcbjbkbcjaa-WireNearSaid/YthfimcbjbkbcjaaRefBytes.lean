/- matchguardref01.Bytes: what it returns. -/
import Derived.Test.YthfimcbjbkbcjaaRefParse
import Derived.Test.YthfimcbjbkbcjaaRef4
import Derived.Deep.OwnRows
namespace Go.Proofs.Ythfimcbjbkbcjaa
open Go.RowKit

/-- Byte q, the lowest one first, of the first i bits of a. -/
def bv (a i q : Nat) : Nat := a % 2 ^ i / 2 ^ (8 * q) % 256
theorem bv_lt (a i q : Nat) : bv a i q < 256 := Nat.mod_lt _ (by decide)
theorem bv_0 (a q : Nat) : bv a 0 q = 0 := by simp [bv, Nat.mod_one]
theorem testBit_bv (a i q r : Nat) : (bv a i q).testBit r = (decide (r < 8) && (decide (r + 8 * q < i) && a.testBit (r + 8 * q))) := by
  unfold bv
  rw [show (256 : Nat) = 2 ^ 8 by decide, Nat.testBit_mod_two_pow, Nat.testBit_div_two_pow, Nat.testBit_mod_two_pow]
theorem bv_yes (a i : Nat) (h : a.testBit i = true) : bv a (i + 1) (i / 8) = bv a i (i / 8) ||| 2 ^ (i % 8) := by
  apply Nat.eq_of_testBit_eq; intro r
  rw [Nat.testBit_or, testBit_bv, testBit_bv, Nat.testBit_two_pow]
  by_cases e : r = i % 8
  · subst e
    have e1 : i % 8 + 8 * (i / 8) = i := by omega
    have e2 : i % 8 < 8 := by omega
    rw [e1, h]
    simp [e2]
  · have e' : ¬ i % 8 = r := fun x => e x.symm
    by_cases e2 : r < 8
    · have e3 : decide (r + 8 * (i / 8) < i + 1) = decide (r + 8 * (i / 8) < i) := by rw [decide_eq_decide]; omega
      rw [e3]
      simp [e']
    · simp [e2, e']
theorem bv_other (a i q : Nat) (h : q ≠ i / 8) : bv a (i + 1) q = bv a i q := by
  apply Nat.eq_of_testBit_eq; intro r
  rw [testBit_bv, testBit_bv]
  by_cases e2 : r < 8
  · have e3 : decide (r + 8 * q < i + 1) = decide (r + 8 * q < i) := by rw [decide_eq_decide]; omega
    rw [e3]
  · simp [e2]
theorem bv_no (a i q : Nat) (h : a.testBit i = false) : bv a (i + 1) q = bv a i q := by
  apply Nat.eq_of_testBit_eq; intro r
  rw [testBit_bv, testBit_bv]
  by_cases e : r + 8 * q = i
  · rw [e, h]; simp
  · have e3 : decide (r + 8 * q < i + 1) = decide (r + 8 * q < i) := by rw [decide_eq_decide]; omega
    rw [e3]
theorem bv_end (a p : Nat) : bv a (8 * nb a) (nb a - 1 - p) = gb a p := by
  unfold bv gb
  rw [Nat.mod_eq_of_lt (lt_nb a)]
theorem bv_or (a i : Nat) (h : a.testBit i = true) : bits .or .u8 (bv a i (i / 8)) (2 ^ (i % 8)) = (bv a (i + 1) (i / 8) : Int) := by
  have h1 : 2 ^ (i % 8) < 256 := by
    rw [show (256 : Nat) = 2 ^ 8 by decide]; exact Nat.pow_lt_pow_right (by decide) (Nat.mod_lt _ (by decide))
  rw [show ((2 : Int) ^ (i % 8)) = ((2 ^ (i % 8) : Nat) : Int) by simp, u8_or_nat _ _ (bv_lt _ _ _) h1, bv_yes a i h]
theorem wrap_pow8 (k : Nat) (hk : k < 8) : IntKind.u8.wrap (2 ^ k) = 2 ^ k := by
  have h1 : 2 ^ k < 256 := by
    rw [show (256 : Nat) = 2 ^ 8 by decide]; exact Nat.pow_lt_pow_right (by decide) hk
  rw [IntKind.wrap_u8, show ((2 : Int) ^ k) = ((2 ^ k : Nat) : Int) by simp]
  generalize 2 ^ k = n at h1 ⊢
  omega
theorem made_row (z : Value) (n : Nat) : madeCells #[z] n = rowA n fun _ => z := by
  apply Array.ext'
  simp [madeCells, rowA, rowL, Nat.mod_one]
theorem info8 : (Try.prog.info? 5).map (fun i => (i.zero, i.size, i.bytes)) = some (some (.int .u8 0), 1, 1) := by kernel_rfl
theorem max_nb7 (a : Nat) : max (1 : Int) (((bitLen a : Int) + 7) / 8) = nb a := by
  unfold nb
  omega

/-- Where Bytes is after i bits: the bits lie in block X, the bytes in block O. -/
structure RB (w : World) (a n X O i : Nat) (W : World) : Prop where
  below : Below w.heap.size w W
  no : w.heap.size ≤ O
  ne : O ≠ X
  lo : O < W.heap.size
  arr : BitsAt W X a.testBit
  out : RowAt W O n fun p => .int .u8 (bv a i (n - 1 - p))
theorem RB.put {w : World} {a n X O i : Nat} {W : World} (h : RB w a n X O i W) (p q : Nat) (hp : p < n) (hq : q = n - 1 - p) (e : q = i / 8) : RB w a n X O (i + 1) (W.setCell ⟨O, p, none⟩ (.int .u8 (bv a (i + 1) q))) where
  below := h.below.setCell h.no _
  no := h.no
  ne := h.ne
  lo := by have := h.lo; simpa [World.setCell] using this
  arr := h.arr.far _ h.ne _
  out := h.out.put p hp _ fun k hk => by
    by_cases hkp : k = p
    · subst hkp
      rw [if_pos rfl, hq]
    · rw [if_neg hkp, bv_other _ _ _ (by omega)]
theorem RB.skip {w : World} {a n X O i : Nat} {W : World} (h : RB w a n X O i W) (hb : a.testBit i = false) : RB w a n X O (i + 1) W :=
  { h with out := h.out.congr fun k _ => by rw [bv_no _ _ _ hb] }

/-- The same with the block, which is new. -/
def RetBN (a : Nat) (w : World) (e : Ending) (w' : World) : Prop := ∃ b cap : Nat, e = .returned (.slice (some ⟨b, 0, none⟩) (nb a) cap) ∧ ReadsB w' (some ⟨b, 0, none⟩) (nb a) (gb a) ∧ Below w.heap.size w w' ∧ w.heap.size ≤ b
set_option maxRecDepth 100000 in
set_option maxHeartbeats 4000000 in
theorem rbytesn_any (a : Nat) (ha : a < 2 ^ 128) (w : World) :
    Calls Try.prog 57 #[.agg #[.int .u64 (hi a), .int .u64 (lo a)]] w (RetBN a w) := by
  have hn2 := nb_le a ha
  have hn1 := nb_pos a
  have hl := len_le a ha
  have hmax := max_nb7 a
  have HA := Lib.hid ha
  have HN := Lib.hid (fun p => bv_end a p)
  have hmk : ∀ w : World, (Instr.makeSlice 23 (.int .i64 (nb a : Int)) (.int .i64 (nb a : Int))).run Try.prog w = .ok (.slice (some ⟨w.heap.size, 0, none⟩) (nb a) (nb a)) (w.alloc (.cells (rowA (nb a) fun _ => .int .u8 0) 5)) := fun w => by
    rw [← made_row]
    exact run_make_row' 23 5 (.int .u8 0) 1 Try.underlying23 info8 rfl .i64 .i64 (nb a) (by omega) (by omega) w
  have w0 : IntKind.i64.wrap ((bitLen a : Int) + 7) = (bitLen a : Int) + 7 := IntWalk.i64_in _ (by omega)
  clear ha
  have HF : Hid (RetBN a = fun w e w' => ∃ b cap : Nat, e = .returned (.slice (some ⟨b, 0, none⟩) (nb a) cap) ∧ ReadsB w' (some ⟨b, 0, none⟩) (nb a) (gb a) ∧ Below w.heap.size w w' ∧ w.heap.size ≤ b) := Lib.hid rfl
  generalize nb a = n at *
  go_enter Try.func57, Try.ntmps57
  go_wp2_with (first
    | (go_at_call 69; refine (read_any _ _).mono ?_; rintro e w1 ⟨rfl, hx⟩; obtain ⟨hc1, hf1, hz1⟩ := after (w.heap.size + 1) hx (by simp) (by simp))
    | (go_at_call 70; refine (rlen_any _ HA.out _).mono ?_; rintro e w2 ⟨rfl, hx2⟩)
    | refine wpList_store_newbits rfl rfl rfl rfl ?_)
  have w8 : IntKind.i64.wrap (8 * (n : Int)) = 8 * (n : Int) := IntWalk.i64_in _ (by omega)
  have w1n : IntKind.i64.wrap ((n : Int) - 1) = (n : Int) - 1 := IntWalk.i64_in _ (by omega)
  have l1 : w.heap.size < w1.heap.size := hz1 _ (by omega)
  have l2 : w1.heap.size < w2.heap.size := by have := hx2.size; simp at this; omega
  have hB : Below w.heap.size w w2 := (((Below.refl _ _).alloc (by simp) _).trans ((hx.mono (by simp)))).trans (((Below.refl _ _).alloc (by omega) _).trans (hx2.mono (by simp; omega)))
  have hR0 : RB w a n w1.heap.size w2.heap.size 0 (w2.alloc (.cells (rowA n fun _ => .int .u8 0) 5)) :=
    ⟨hB.alloc (by omega) _, by omega, by omega, by simp, ((BitsAt.new w1 a.testBit 86).below hx2 (by simp)).past l2 _, (RowAt.new w2 n _ _).congr fun p _ => by rw [bv_0]; rfl⟩
  clear hx hx2 hc1 hf1 hz1 hB
  generalize (w2.alloc (.cells (rowA n fun _ => .int .u8 0) 5)) = W0 at hR0 ⊢
  generalize w1.heap.size = X at hR0 ⊢
  generalize w2.heap.size = O at hR0 ⊢
  go_loopw [6] (fun v w' => ∃ i : Nat, i ≤ 8 * n ∧ v = .int .i64 i ∧ RB w a n X O i w') (fun v _ => 128 - (intOf v).toNat)
  case atStart => exact ⟨0, by omega, rfl, hR0⟩
  case round =>
    obtain ⟨i, hin, rfl, hR⟩ := hrel
    by_cases hlt : (i : Int) < 8 * (n : Int)
    · have x0 : wr.cell? ⟨X, i, none⟩ = some _ := hR.arr.cell i (by omega)
      have i128 : (i : Int) < 128 := by omega
      by_cases hbit : a.testBit i = true
      · rw [hbit] at x0
        obtain ⟨q, hq⟩ : ∃ q : Nat, q = i / 8 := ⟨_, rfl⟩
        obtain ⟨r, hr⟩ : ∃ r : Nat, r = i % 8 := ⟨_, rfl⟩
        obtain ⟨p, hp⟩ : ∃ p : Nat, p = n - 1 - q := ⟨_, rfl⟩
        have hor := bv_or a i hbit
        rw [← hq, ← hr] at hor
        have hpn : p < n := by omega
        have hqp : q = n - 1 - p := by omega
        have o0 : wr.cell? ⟨O, p, none⟩ = some _ := hR.out.cell p hpn
        have o1 : wr.frozen? ⟨O, p, none⟩ = false := hR.out.froz p hpn
        rw [← hqp] at o0
        have hN := hR.put p q hpn hqp hq
        have d1 : (i : Int) / 8 = (q : Int) := by omega
        have d2 : (i : Int) % 8 = (r : Int) := by omega
        have w2n : IntKind.i64.wrap ((n : Int) - 1 - (q : Int)) = (p : Int) := by rw [IntWalk.i64_in _ (by omega)]; omega
        have wp := wrap_pow8 r (by omega)
        have hr8 : (r : Int) < 8 := by omega
        have hpn2 : (p : Int) < (n : Int) := by omega
        have HN2 := Lib.hid hN
        clear hN hq hr hp hqp
        generalize bv a i q = y at o0 hor
        generalize bv a (i + 1) q = z at HN2 hor
        go_wp2
        go_roundw
        all_goals go_light
        case measure => simp [intOf]; omega
        exact ⟨i + 1, by omega, by simp, HN2.out⟩
      · have hbf : a.testBit i = false := by simpa using hbit
        rw [hbf] at x0
        have HN2 := Lib.hid (hR.skip hbf)
        clear hbit hbf
        go_wp2
        go_roundw
        all_goals go_light
        case measure => simp [intOf]; omega
        exact ⟨i + 1, by omega, by simp, HN2.out⟩
    · have e : i = 8 * n := by omega
      subst e
      go_wp2
      go_ret
      rw [HF.out]
      refine ⟨O, n, rfl, .inr ⟨O, 0, rfl, hR.lo, fun p hp => ?_, fun p _ => gb_lt a p⟩, hR.below, hR.no⟩
      have := hR.out.cell p hp
      rw [HN.out p] at this
      rw [Nat.zero_add]
      exact this
theorem rbytes_any (a : Nat) (ha : a < 2 ^ 128) (w : World) :
    Calls Try.prog 57 #[.agg #[.int .u64 (hi a), .int .u64 (lo a)]] w (RetB a w) :=
  (rbytesn_any a ha w).mono fun _ _ ⟨b, cap, h1, h2, h3, _⟩ => ⟨b, cap, h1, h2, h3⟩
end Go.Proofs.Ythfimcbjbkbcjaa
