/- matchguardref01.Parse: what it returns. -/
import Derived.Test.YthfimcbjbkbcjaaBackPure
import Derived.Test.YthfimcbjbkbcjaaRef2
namespace Go.Proofs.Ythfimcbjbkbcjaa
open Go.RowKit

/-- Bit j of the array after i bytes and k bits of the next one. -/
def pb (n : Nat) (g : Nat → Nat) (i k j : Nat) : Bool := decide (j / 8 < n ∧ (n - 1 - j / 8 < i ∨ n - 1 - j / 8 = i ∧ j % 8 < k)) && (g (n - 1 - j / 8)).testBit (j % 8)
theorem pb_start (n : Nat) (g : Nat → Nat) (j : Nat) : pb n g 0 0 j = false := by
  have h : ¬ (j / 8 < n ∧ (n - 1 - j / 8 < 0 ∨ n - 1 - j / 8 = 0 ∧ j % 8 < 0)) := by omega
  simp only [pb, decide_eq_false h, Bool.false_and]
theorem pb_row (n : Nat) (g : Nat → Nat) (i j : Nat) : pb n g i 8 j = pb n g (i + 1) 0 j := by
  unfold pb
  congr 1
  rw [decide_eq_decide]
  omega
theorem pb_step (n : Nat) (g : Nat → Nat) (i k j : Nat) (hi : i < n) (hk : k < 8) : pb n g i (k + 1) j = if j = 8 * (n - 1 - i) + k then (g i).testBit k else pb n g i k j := by
  by_cases h : j = 8 * (n - 1 - i) + k
  · subst h
    rw [if_pos rfl]
    have e1 : (8 * (n - 1 - i) + k) / 8 = n - 1 - i := by omega
    have e2 : (8 * (n - 1 - i) + k) % 8 = k := by omega
    have e3 : n - 1 - (n - 1 - i) = i := by omega
    have h1 : n - 1 - i < n ∧ (i < i ∨ i = i ∧ k < k + 1) := by omega
    unfold pb
    rw [e1, e2, e3, decide_eq_true h1, Bool.true_and]
  · rw [if_neg h]
    unfold pb
    congr 1
    rw [decide_eq_decide]
    omega
theorem testBit_byte (x r : Nat) (hr : r < 8) : x.testBit r = (x % 256).testBit r := by
  rw [show (256 : Nat) = 2 ^ 8 by decide, Nat.testBit_mod_two_pow]
  simp [hr]
theorem pb_end (n : Nat) (g : Nat → Nat) (hg : ∀ i, i < n → g i < 256) (j : Nat) : pb n g n 0 j = (numTo g n).testBit j := by
  by_cases h : j / 8 < n
  · have h1 : j / 8 < n ∧ (n - 1 - j / 8 < n ∨ n - 1 - j / 8 = n ∧ j % 8 < 0) := by omega
    have hd := numTo_div g n hg (n - j / 8) (j / 8) (by omega)
    rw [show n - j / 8 + j / 8 = n by omega] at hd
    have e : (numTo g n).testBit j = (numTo g (n - j / 8)).testBit (j % 8) := by
      rw [← hd, Nat.testBit_div_two_pow]
      congr 1
      omega
    rw [e, testBit_byte _ _ (Nat.mod_lt _ (by decide)), show n - j / 8 = (n - 1 - j / 8) + 1 by omega, numTo]
    have hb := hg (n - 1 - j / 8) (by omega)
    rw [show (numTo g (n - 1 - j / 8) * 256 + g (n - 1 - j / 8)) % 256 = g (n - 1 - j / 8) by omega]
    simp only [pb, decide_eq_true h1, Bool.true_and]
  · have h1 : ¬ (j / 8 < n ∧ (n - 1 - j / 8 < n ∨ n - 1 - j / 8 = n ∧ j % 8 < 0)) := by omega
    have hlt := numTo_lt g n hg n (Nat.le_refl _)
    rw [Nat.testBit_lt_two_pow (Nat.lt_of_lt_of_le hlt (Nat.pow_le_pow_right (by decide) (by omega)))]
    simp only [pb, decide_eq_false h1, Bool.false_and]
theorem ofBits_pb (n : Nat) (g : Nat → Nat) (hg : ∀ i, i < n → g i < 256) (hn : n ≤ 16) : ofBits (pb n g n 0) = numTo g n :=
  ofBits_eq (Nat.lt_of_lt_of_le (numTo_lt g n hg n (Nat.le_refl _)) (Nat.pow_le_pow_right (by decide) (by omega))) fun i _ => pb_end n g hg i
theorem bit_byte (x k : Nat) (hx : x < 256) : (bits .and .u8 ((x : Int) / 2 ^ k) 1 == 1) = x.testBit k := by
  rw [show ((2 : Int) ^ k) = ((2 ^ k : Nat) : Int) by simp, ← Int.natCast_ediv, show (1 : Int) = ((1 : Nat) : Int) from rfl,
    u8_and_nat _ _ (Nat.lt_of_le_of_lt (Nat.div_le_self _ _) hx) (by decide), Nat.and_one_is_mod, Bool.eq_iff_iff, Nat.testBit_eq_decide_div_mod_eq]
  simp only [beq_iff_eq, decide_eq_true_eq]
  omega

set_option maxRecDepth 100000 in
set_option maxHeartbeats 4000000 in
theorem rparse_any (A : Option Addr) (n cap : Nat) (g : Nat → Nat) (w : World) (hr : ReadsB w A n g) (hn : n ≤ 100) :
    Calls Try.prog 51 #[.slice A n cap] w (RetVE (parseV n g) (parseE n g) w) := by
  by_cases h0 : n = 0
  · have e1 : parseE n g = 1 := by simp [parseE, h0]
    have e2 : parseV n g = 0 := by simp [parseV, e1]
    rw [e1, e2]
    clear e1 e2 hr hn
    subst h0
    go_enter Try.func51, Try.ntmps51
    go_wp2
    refine bodyPost_ret (v := .tuple #[.agg #[.int .u64 (hi 0), .int .u64 (lo 0)], .int .i64 1]) (by simp [results, Try.results51, go_sem, hi_zero, lo_zero]) rfl ⟨rfl, ?_⟩
    exact (Below.refl _ _).alloc (by simp) _
  · obtain ⟨b, o, rfl, hb, hc, hg⟩ := hr.resolve_left h0
    have n0 : ((n : Int) == 0) = false := by simp; omega
    by_cases h1 : 16 < n
    · have e1 : parseE n g = 3 := by simp [parseE, h0, h1]
      have e2 : parseV n g = 0 := by simp [parseV, e1]
      rw [e1, e2]
      have h1' : (16 : Int) < (n : Int) := by omega
      clear e1 e2 hr hc hg h0 h1
      go_enter Try.func51, Try.ntmps51
      go_wp2
      refine bodyPost_ret (v := .tuple #[.agg #[.int .u64 (hi 0), .int .u64 (lo 0)], .int .i64 3]) (by simp [results, Try.results51, go_sem, hi_zero, lo_zero]) rfl ⟨rfl, ?_⟩
      exact (Below.refl _ _).alloc (by simp) _
    · have h1' : (n : Int) ≤ 16 := by omega
      have hc0 := hc 0 (by omega)
      rw [Nat.add_zero] at hc0
      by_cases h2 : 1 < n ∧ g 0 = 0
      · have e1 : parseE n g = 5 := by simp [parseE, h0, h1, h2]
        have e2 : parseV n g = 0 := by simp [parseV, e1]
        rw [e1, e2]
        obtain ⟨h3, h4⟩ := h2
        rw [h4] at hc0
        have h3' : (1 : Int) < (n : Int) := by omega
        have h5 : (0 : Int) < (n : Int) := by omega
        clear e1 e2 hr hc hg h0 h1 h3 h4 hn
        go_enter Try.func51, Try.ntmps51
        go_wp2
        refine bodyPost_ret (v := .tuple #[.agg #[.int .u64 (hi 0), .int .u64 (lo 0)], .int .i64 5]) (by simp [results, Try.results51, go_sem, hi_zero, lo_zero]) rfl ⟨rfl, ?_⟩
        exact (Below.refl _ _).alloc (by simp) _
      · have e1 : parseE n g = 0 := by simp [parseE, h0, h1, h2]
        have e2 : parseV n g = numTo g n := by simp [parseV, e1]
        rw [e1, e2]
        have h6 : decide ((16 : Int) < (n : Int)) = false := by simp; omega
        have HE := Lib.hid h2
        have h5 : (0 : Int) < (n : Int) := by omega
        have HC := Lib.hid hc
        have HG := Lib.hid hg
        have HL := Lib.hid (ofBits_pb n g hg (by omega))
        clear e1 e2 hr hc hg h0 h1 h2
        have key : ∀ h3 : (1 < (n : Int) ∧ ((g 0 : Int) == 0) = false) ∨ decide (1 < (n : Int)) = false, Calls Try.prog 51 #[.slice (some ⟨b, o, none⟩) n cap] w (RetVE (numTo g n) 0 w) := by
          intro h3
          rcases h3 with ⟨h3, h4⟩ | h4
          · go_enter Try.func51, Try.ntmps51
            go_wp2_with (simp only [zero_bits])
            go_loopw [31] (fun v w' => ∃ i : Nat, i ≤ n ∧ v = .int .i64 i ∧ OneAt w w.heap.size (w.heap.size + 1) (pb n g i 0) w') (fun v _ => 16 - (intOf v).toNat)
            case atStart => exact ⟨0, by omega, rfl, (OneAt.first w _ fun _ => false).congr fun i _ => (pb_start n g i).symm⟩
            case round =>
              obtain ⟨i, hin, rfl, hR⟩ := hrel
              by_cases hlt : (i : Int) < n
              · have i0 : wr.cell? ⟨b, o + i, none⟩ = some (.int .u8 (g i)) := by rw [hR.below.cell (p := ⟨_, _, none⟩) hb]; exact HC.out i (by omega)
                have HX := Lib.hid (HG.out i (by omega))
                go_wp2
                go_loopw [7] (fun v w' => ∃ k : Nat, k ≤ 8 ∧ v = .int .i64 k ∧ OneAt w w.heap.size (w.heap.size + 1) (pb n g i k) w') (fun v _ => 8 - (intOf v).toNat)
                case atStart => exact ⟨0, by omega, rfl, hR⟩
                case round =>
                  obtain ⟨k, hk, rfl, hS⟩ := hrel
                  by_cases hlt2 : (k : Int) < 8
                  · have hk8 : k < 8 := by omega
                    have HJ := Lib.hid (fun j => pb_step n g i k j (by omega) hk8)
                    obtain ⟨m, hm⟩ : ∃ m : Nat, m = n - 1 - i := ⟨_, rfl⟩
                    obtain ⟨J, hJ⟩ : ∃ J : Nat, J = 8 * m + k := ⟨_, rfl⟩
                    rw [← hm, ← hJ] at HJ
                    have j0 : wr.cell? ⟨w.heap.size + 1, J, none⟩ = some _ := hS.arr.cell J (by omega)
                    have j1 : wr.frozen? ⟨w.heap.size + 1, J, none⟩ = false := hS.arr.froz J (by omega)
                    have w1 : IntKind.i64.wrap ((n : Int) - 1) = (n : Int) - 1 := IntWalk.i64_in _ (by omega)
                    have w2 : IntKind.i64.wrap ((n : Int) - 1 - (i : Int)) = (m : Int) := by rw [IntWalk.i64_in _ (by omega)]; omega
                    have w3 : IntKind.i64.wrap (8 * (m : Int)) = 8 * (m : Int) := IntWalk.i64_in _ (by omega)
                    have w4 : IntKind.i64.wrap (8 * (m : Int) + (k : Int)) = (J : Int) := by rw [IntWalk.i64_in _ (by omega)]; omega
                    have hJ1 : J < 128 := by omega
                    have hJ2 : (J : Int) < 128 := by omega
                    clear hm hJ
                    go_wp2
                    go_roundw
                    all_goals go_light
                    case measure => simp [intOf]; omega
                    rw [bit_byte _ _ HX.out]
                    exact ⟨k + 1, by omega, by simp, hS.put J hJ1 _ fun j _ => HJ.out j⟩
                  · have e : k = 8 := by omega
                    subst e
                    go_wp2
                    go_roundw
                    all_goals go_light
                    case measure => simp [intOf]; omega
                    exact ⟨i + 1, by omega, by simp, hS.congr fun j _ => pb_row n g i j⟩
              · have e : i = n := by omega
                subst e
                have nr := hR.nr
                go_wp2_with (first
                  | refine wpList_load_bits rfl rfl rfl hR.arr ?_
                  | (go_at_call 66; refine (make_any _ _).mono ?_; rintro e w2 ⟨rfl, hx⟩; obtain ⟨r0, r1, q0, q1, hbl⟩ := hR.after hx))
                go_light
                rw [HL.out]
                refine bodyPost_ret (v := .tuple #[.agg #[.int .u64 (hi (numTo g i)), .int .u64 (lo (numTo g i))], .int .i64 0]) (by simp [results, Try.results51, go_sem, r0, r1]) rfl ⟨rfl, ?_⟩
                exact Below.setCell (Below.setCell hbl (by simp) _) (by simp) _
          · go_enter Try.func51, Try.ntmps51
            go_wp2_with (simp only [zero_bits])
            go_loopw [31] (fun v w' => ∃ i : Nat, i ≤ n ∧ v = .int .i64 i ∧ OneAt w w.heap.size (w.heap.size + 1) (pb n g i 0) w') (fun v _ => 16 - (intOf v).toNat)
            case atStart => exact ⟨0, by omega, rfl, (OneAt.first w _ fun _ => false).congr fun i _ => (pb_start n g i).symm⟩
            case round =>
              obtain ⟨i, hin, rfl, hR⟩ := hrel
              by_cases hlt : (i : Int) < n
              · have i0 : wr.cell? ⟨b, o + i, none⟩ = some (.int .u8 (g i)) := by rw [hR.below.cell (p := ⟨_, _, none⟩) hb]; exact HC.out i (by omega)
                have HX := Lib.hid (HG.out i (by omega))
                go_wp2
                go_loopw [7] (fun v w' => ∃ k : Nat, k ≤ 8 ∧ v = .int .i64 k ∧ OneAt w w.heap.size (w.heap.size + 1) (pb n g i k) w') (fun v _ => 8 - (intOf v).toNat)
                case atStart => exact ⟨0, by omega, rfl, hR⟩
                case round =>
                  obtain ⟨k, hk, rfl, hS⟩ := hrel
                  by_cases hlt2 : (k : Int) < 8
                  · have hk8 : k < 8 := by omega
                    have HJ := Lib.hid (fun j => pb_step n g i k j (by omega) hk8)
                    obtain ⟨m, hm⟩ : ∃ m : Nat, m = n - 1 - i := ⟨_, rfl⟩
                    obtain ⟨J, hJ⟩ : ∃ J : Nat, J = 8 * m + k := ⟨_, rfl⟩
                    rw [← hm, ← hJ] at HJ
                    have j0 : wr.cell? ⟨w.heap.size + 1, J, none⟩ = some _ := hS.arr.cell J (by omega)
                    have j1 : wr.frozen? ⟨w.heap.size + 1, J, none⟩ = false := hS.arr.froz J (by omega)
                    have w1 : IntKind.i64.wrap ((n : Int) - 1) = (n : Int) - 1 := IntWalk.i64_in _ (by omega)
                    have w2 : IntKind.i64.wrap ((n : Int) - 1 - (i : Int)) = (m : Int) := by rw [IntWalk.i64_in _ (by omega)]; omega
                    have w3 : IntKind.i64.wrap (8 * (m : Int)) = 8 * (m : Int) := IntWalk.i64_in _ (by omega)
                    have w4 : IntKind.i64.wrap (8 * (m : Int) + (k : Int)) = (J : Int) := by rw [IntWalk.i64_in _ (by omega)]; omega
                    have hJ1 : J < 128 := by omega
                    have hJ2 : (J : Int) < 128 := by omega
                    clear hm hJ
                    go_wp2
                    go_roundw
                    all_goals go_light
                    case measure => simp [intOf]; omega
                    rw [bit_byte _ _ HX.out]
                    exact ⟨k + 1, by omega, by simp, hS.put J hJ1 _ fun j _ => HJ.out j⟩
                  · have e : k = 8 := by omega
                    subst e
                    go_wp2
                    go_roundw
                    all_goals go_light
                    case measure => simp [intOf]; omega
                    exact ⟨i + 1, by omega, by simp, hS.congr fun j _ => pb_row n g i j⟩
              · have e : i = n := by omega
                subst e
                have nr := hR.nr
                go_wp2_with (first
                  | refine wpList_load_bits rfl rfl rfl hR.arr ?_
                  | (go_at_call 66; refine (make_any _ _).mono ?_; rintro e w2 ⟨rfl, hx⟩; obtain ⟨r0, r1, q0, q1, hbl⟩ := hR.after hx))
                go_light
                rw [HL.out]
                refine bodyPost_ret (v := .tuple #[.agg #[.int .u64 (hi (numTo g i)), .int .u64 (lo (numTo g i))], .int .i64 0]) (by simp [results, Try.results51, go_sem, r0, r1]) rfl ⟨rfl, ?_⟩
                exact Below.setCell (Below.setCell hbl (by simp) _) (by simp) _
        by_cases h3 : (1 : Int) < (n : Int)
        · exact key (.inl ⟨h3, by have := HE.out; simp; omega⟩)
        · exact key (.inr (by simp; omega))
end Go.Proofs.Ythfimcbjbkbcjaa
