/- LexerLimits, its walk. -/
import Derived.Test.YtbacclhnbecojaaDoorLBeg
namespace Go.Proofs.YtbacclhnbecojaaDoor
open Go.RowKit
set_option maxRecDepth 100000 in
set_option maxHeartbeats 4000000 in
theorem llim_any (n : Int) (w : World) (hy : Syms w) : Calls Tryd.prog 6 #[.int .i64 n] w (RetX (.bool true) w) := by
  obtain ⟨m, hm⟩ : ∃ m, md n = m := ⟨_, rfl⟩
  have hm3 : m < 3 := by rw [← hm]; exact md_lt n
  have KM : Hid (∀ W, Calls Tryd.prog 9 #[.int .i64 n, .int .i64 3] W fun e w' => e = .returned (.int .i64 (m : Nat)) ∧ W = w') := Lib.hid fun W => by rw [← hm]; exact cs_mod3 n W
  have hw : IntKind.i64.wrap (399 + (m : Int)) = 399 + (m : Int) := IntWalk.i64_in _ (by omega)
  have HY := Lib.hid hy
  have E0 : (⟨#[]⟩ : ByteArray) = par 0 := rfl
  clear hm hy
  go_enter Tryd.func6, Tryd.ntmps6
  go_wp2
  go_loopw [3, 4] (fun s i w' => ∃ k : Nat, k ≤ 399 + m ∧ i = .int .i64 k ∧ s = .string (par k) ∧ w = w') (fun _ i _ => 399 + m - (intOf i).toNat)
  case atStart => exact ⟨0, by omega, rfl, by rw [← E0], rfl⟩
  case round =>
    clear E0
    obtain ⟨k, hk, rfl, rfl, rfl⟩ := hrel
    obtain ⟨p, hp⟩ : ∃ p, par k = p := ⟨_, rfl⟩
    have hps : p.size = k := by rw [← hp]; exact par_size k
    rw [hp]
    have HP := Lib.hid hp
    clear hp
    by_cases hlt : k < 399 + m
    · have h1 : (k : Int) < 399 + (m : Int) := by omega
      have hcat : ¬ 9223372036854775807 < k + 1 := by omega
      have hcat2 : ¬ 9223372036854775807 < p.size + 1 := by omega
      go_wp2_with (go_at_call 9; refine (KM.out _).mono ?_; rintro e w1 ⟨rfl, rfl⟩)
      go_roundw
      case rel => (go_light; exact ⟨k + 1, by omega, by simp, by rw [par_succ, HP.out], by trivial⟩)
      case measure => simp [intOf]; omega
    · have hk2 : k = 399 + m := by omega
      have h1 : ¬ (k : Int) < 399 + (m : Int) := by omega
      have HK2 := Lib.hid hk2
      clear hk2
      by_cases h4 : 400 < k
      · have h4I : (400 : Int) < (k : Int) := by omega
        have KS : Hid (Calls Tryd.prog 10 #[.string p] w (RetScan ([], 0, 3) w)) := Lib.hid (by
          have h := lx_scan p (by omega) w HY.out
          have e : scan p = ([], 0, 3) := by unfold scan; rw [if_pos (by omega)]
          rw [e] at h
          exact h)
        go_wp2_with (first
          | (go_at_call 9; refine (KM.out _).mono ?_; rintro e w1 ⟨rfl, rfl⟩)
          | (go_at_call 10; refine KS.out.mono ?_; rintro e w2 ⟨A, cap, he, hO, hb⟩; (have he2 : e = .returned (.tuple #[.slice A 0 cap, .int .i64 0, .int .i64 3]) := he); subst he2; have HB2 := Lib.hid hb; clear he hO hb)
          | (go_at_call 13; refine (lx_begun _ (HY.out.below HB2.out HY.out.lt)).mono ?_; rintro e w3 ⟨rfl, hb3⟩; have HB3 := Lib.hid (HB2.out.trans (hb3.mono HB2.out.size)); clear hb3))
        go_ret
        exact ⟨by first | rfl | simp, HB3.out⟩
      · have h4I : ¬ (400 : Int) < (k : Int) := by omega
        obtain ⟨l, hl1, hl2⟩ := par_scan k (by omega)
        have KS : Hid (∃ q : List Tok, q.length = k ∧ Calls Tryd.prog 10 #[.string p] w (RetScan (q, 0, 0) w)) := Lib.hid ⟨l, hl2, by
          have h := lx_scan p (by omega) w HY.out
          rw [← HP.out, hl1, HP.out] at h
          exact h⟩
        clear hl1 hl2
        obtain ⟨q, hq, hC⟩ := KS.out
        have HC := Lib.hid hC
        clear hC KS
        go_wp2_with (first
          | (go_at_call 9; refine (KM.out _).mono ?_; rintro e w1 ⟨rfl, rfl⟩)
          | (go_at_call 10; refine HC.out.mono ?_; rintro e w2 ⟨A, cap, he, hO, hb⟩; (have he2 : e = .returned (.tuple #[.slice A k cap, .int .i64 0, .int .i64 0]) := by rw [← hq]; exact he); subst he2; have HB2 := Lib.hid hb; clear he hO hb)
          | (go_at_call 13; refine (lx_begun _ (HY.out.below HB2.out HY.out.lt)).mono ?_; rintro e w3 ⟨rfl, hb3⟩; have HB3 := Lib.hid (HB2.out.trans (hb3.mono HB2.out.size)); clear hb3))
        go_ret
        exact ⟨by first | rfl | simp, HB3.out⟩
end Go.Proofs.YtbacclhnbecojaaDoor
