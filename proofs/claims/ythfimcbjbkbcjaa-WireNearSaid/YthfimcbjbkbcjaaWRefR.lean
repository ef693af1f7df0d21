/- The reference's reader: Uint, Bool, Count, Finish. -/
import Derived.Test.YthfimcbjbkbcjaaWBegun
namespace Go.Proofs.Ythfimcbjbkbcjaa
open Go.RowKit

theorem Meth.same {w : World} {R D n cap : Nat} {l : List Nat} {e : Int} {A : Option Addr} (hR : RdAt w R D l e A n cap) (val : Value) : Meth R D val l e w (.returned val) w := ⟨rfl, World.grownBy.refl _ _, _, _, _, hR⟩
theorem Meth.failed {w : World} {R D n cap : Nat} {l : List Nat} {e : Int} {A : Option Addr} (hR : RdAt w R D l e A n cap) (c : Int) (val : Value) : Meth R D val l c w (.returned val) (w.setCell ⟨R, 1, none⟩ (.int .i64 c)) :=
  ⟨rfl, grown_set w R 1 _, _, _, _, hR.fail c⟩
theorem Meth.skip {w W : World} {R D n cap : Nat} {l : List Nat} {e : Int} {A : Option Addr} (hR : RdAt w R D l e A n cap) (k : Nat) (hk : k ≤ n) (val : Value) (hW : W = w.setCell ⟨R, 0, none⟩ (.slice (cutA A cap k) (n - k) (cap - k))) : Meth R D val (l.drop k) e w (.returned val) W := by
  subst hW
  exact ⟨rfl, grown_set w R 0 _, _, _, _, hR.skip k hk⟩
theorem num_1 (l : List Nat) (h : 1 ≤ l.length) : num (l.take 1) = l.getD 0 0 := by
  rw [num_take l 0 (by omega)]
  simp [num]
theorem num_2 (l : List Nat) (h : 2 ≤ l.length) : num (l.take 2) = l.getD 0 0 * 256 + l.getD 1 0 := by
  rw [num_take l 1 (by omega), num_1 l (by omega)]
section
variable (R D : Nat) (l : List Nat) (A : Option Addr) (n cap : Nat) (w : World)
theorem xfinish_any (e : Int) (hR : RdAt w R D l e A n cap) : Calls Try.prog 15 #[.pointer (some ⟨R, 0, none⟩)] w fun en w' => en = .returned (.int .i64 (fE l e)) ∧ w = w' := by
  have hc0 := hR.c0
  have hc1 := hR.c1
  have hlen := hR.len
  by_cases he : e = 0
  · subst he
    by_cases hl : 0 < n
    · have hf : fE l 0 = 2 := by rw [fE, if_pos ⟨rfl, by omega⟩]
      have hl' : 0 < (n : Int) := by omega
      rw [hf]
      clear hR hf hlen hl
      go_enter Try.func15, Try.ntmps15
      go_wp2
      go_ret
      exact ⟨rfl, rfl⟩
    · have hf : fE l 0 = 0 := by rw [fE, if_neg (by omega)]
      have hl2 : n = 0 := by omega
      rw [hf]
      clear hR hf hlen hl
      subst hl2
      go_enter Try.func15, Try.ntmps15
      go_wp2
      go_ret
      exact ⟨rfl, rfl⟩
  · have hf : fE l e = e := by rw [fE, if_neg (by omega)]
    have he' := beq_of he
    rw [hf]
    clear hR hf hlen he
    go_enter Try.func15, Try.ntmps15
    go_wp2
    go_ret
    exact ⟨rfl, rfl⟩
theorem fail_any (c e : Int) (hR : RdAt w R D l e A n cap) : Calls Try.prog 41 #[.pointer (some ⟨R, 0, none⟩), .int .i64 c] w fun en w' => en = .returned (.tuple #[]) ∧ w' = w.setCell ⟨R, 1, none⟩ (.int .i64 c) := by
  have hc1 := hR.c1
  have hf1 := hR.f1
  clear hR
  go_enter Try.func41, Try.ntmps41
  go_wp2
  go_end0
  exact ⟨rfl, rfl⟩
theorem x_uint (k : Int) (hk1 : -9223372036854775808 ≤ k) (hk2 : k ≤ 9223372036854775807) (e : Int) (hR : RdAt w R D l e A n cap) :
    Calls Try.prog 17 #[.pointer (some ⟨R, 0, none⟩), .int .i64 k] w (Meth R D (.int .i64 (pick (uE k l) e 0 (uV k l))) (stL (uE k l) k.toNat l e) (stE (uE k l) e) w) := by
  have hc0 := hR.c0
  have hc1 := hR.c1
  have hf0 := hR.f0
  have hf1 := hR.f1
  have HR := Lib.hid hR
  have HK1 := Lib.hid hk1
  have HK2 := Lib.hid hk2
  by_cases he : e = 0
  · subst he
    have hlen := hR.len
    rw [stE_0]
    by_cases hk : k < 1 ∨ 4 < k
    · have hE : uE k l = 4 := by simp [uE, hk]
      rw [hE, stL_bad (by decide), pick_bad (by decide)]
      clear hR hk1 hk2 hlen hE
      by_cases h1 : k < 1
      · clear hk
        go_enter Try.func17, Try.ntmps17
        go_wp2_with (go_at_call 41; refine (fail_any R D l A n cap w _ 0 HR.out).mono ?_; rintro e w' ⟨rfl, rfl⟩)
        go_ret
        exact .failed HR.out 4 _
      · have h2 : decide (k < 1) = false := by simp; omega
        have h3 : 4 < k := by omega
        clear hk h1
        go_enter Try.func17, Try.ntmps17
        go_wp2_with (go_at_call 41; refine (fail_any R D l A n cap w _ 0 HR.out).mono ?_; rintro e w' ⟨rfl, rfl⟩)
        go_ret
        exact .failed HR.out 4 _
    · obtain ⟨j, rfl⟩ := Int.eq_ofNat_of_zero_le (a := k) (by omega)
      have h2 : decide ((j : Int) < 1) = false := by simp; omega
      have h3 : decide (4 < (j : Int)) = false := by simp; omega
      by_cases hs : l.length < j
      · have hE : uE (j : Int) l = 1 := by rw [uE, if_neg hk, if_pos (by simpa using hs)]
        rw [hE, stL_bad (by decide), pick_bad (by decide)]
        have h4 : (n : Int) < (j : Int) := by omega
        clear hR hk1 hk2 hlen hE hk hs HK1 HK2
        go_enter Try.func17, Try.ntmps17
        go_wp2_with (go_at_call 41; refine (fail_any R D l A n cap w _ 0 HR.out).mono ?_; rintro e w' ⟨rfl, rfl⟩)
        go_ret
        exact .failed HR.out 1 _
      · have hE : uE (j : Int) l = 0 := by rw [uE, if_neg hk, if_neg (by simpa using hs)]
        rw [stL_ok hE, pick_ok hE, hE]
        have hk4 : j ≤ 4 := by omega
        have hj1 : 1 ≤ j := by omega
        have h4 : decide ((n : Int) < (j : Int)) = false := by simp; omega
        have hjn : j ≤ n := by omega
        have hcap := hR.le
        have h5 : (j : Int) ≤ (n : Int) := by omega
        have h6 : (n : Int) ≤ (cap : Int) := by omega
        have h7 : (j : Int) ≤ (cap : Int) := by omega
        obtain ⟨o, rfl, hb, hc⟩ := hR.reads.resolve_left (fun e => by rw [e] at hs; simp at hs; omega)
        have HC := Lib.hid hc
        have HL := Lib.hid hlen
        clear hR hk1 hk2 hlen hE hk hs HK1 HK2 hc
        go_enter Try.func17, Try.ntmps17
        go_wp2
        go_loop [5, 7, 40] (fun m x i => ∃ q : Nat, q ≤ j ∧ i = .int .i64 q ∧ m = .int .i64 (num (l.take q))) (fun _ _ i => j - (intOf i).toNat)
        case atStart => exact ⟨0, by omega, rfl, rfl⟩
        case round =>
          obtain ⟨q, hq, rfl, rfl⟩ := hrel
          by_cases hlt : q < j
          · have i0 := HC.out q (by have := HL.out; omega)
            have hx := HR.out.small.getD q
            have hm := num_lt l HR.out.small q (by have := HL.out; omega)
            have hm2 : num (l.take q) < 16777216 := Nat.lt_of_lt_of_le hm (Nat.pow_le_pow_right (n := 256) (by decide) (show q ≤ 3 by omega))
            have HN := Lib.hid (num_take l q (by have := HL.out; omega))
            generalize num (l.take q) = v at *
            generalize l.getD q 0 = x at *
            have hlt' : (q : Int) < (j : Int) := by omega
            clear hm
            go_wp2
            go_round
            case rel => exact ⟨q + 1, by omega, by simp, by rw [HN.out]; congr 1⟩
            case measure => simp [intOf]; omega
          · obtain rfl : q = j := by omega
            go_wp2
            all_goals go_ret
            all_goals exact .skip HR.out q hjn _ (by simp [cutA, *] <;> rw [Addr.add_mid])
  · rw [stL_err he, stE_err he, pick_err he]
    have he' := beq_of he
    clear hR hk1 hk2 he
    go_enter Try.func17, Try.ntmps17
    go_wp2
    go_ret
    exact .same HR.out _
end
end Go.Proofs.Ythfimcbjbkbcjaa
