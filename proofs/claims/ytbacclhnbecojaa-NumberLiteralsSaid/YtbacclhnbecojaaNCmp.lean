/- Package number: Compare of two that are not equal. -/
import Derived.Test.YtbacclhnbecojaaNNum5
import Derived.Deep.DeepCutAuto
namespace Go.Proofs.Ytbacclhnbecojaa
open Go.RowKit

theorem nn_topL (z : Int) (h : Rg z) (w : World) : Calls Try.prog 37 #[.agg #[.int .u32 (wd z 0), .int .u32 (wd z 1), .int .u32 (wd z 2), .int .u32 (wd z 3), .int .u32 (wd z 4), .int .u32 (wd z 5)]] w (RetX (.int .i32 (tp z)) w) := nn_top z h w
/-- a callee that changes nothing, behind an elder draw -/
theorem quiet_behind {P : Program} {f : FuncId} {args : Array Value} {w : World} {a n : Nat} {v : Value} (h : Calls P f args (w.drewN (a + n)) fun e w' => e = .returned v ∧ w.drewN (a + n) = w') :
    Calls P f args (w.drewN (a + n)) fun e w'' => e = .returned v ∧ ∃ m, w'' = w.drewN (a + m) :=
  h.mono fun _ _ h => ⟨h.1, n, h.2.symm⟩
/-- two numbers in their boxes -/
structure TwoN (w : World) (a b : Int) (w' : World) : Prop where
  below : Below w.heap.size w w'
  size : w.heap.size + 2 ≤ w'.heap.size
  ra : RowAt w' w.heap.size 6 (wV a)
  rb : RowAt w' (w.heap.size + 1) 6 (wV b)
theorem TwoN.begun (w : World) (a b : Int) : TwoN w a b ((w.alloc (.cells #[.int .u32 (wd a 0), .int .u32 (wd a 1), .int .u32 (wd a 2), .int .u32 (wd a 3), .int .u32 (wd a 4), .int .u32 (wd a 5)] 27)).alloc (.cells #[.int .u32 (wd b 0), .int .u32 (wd b 1), .int .u32 (wd b 2), .int .u32 (wd b 3), .int .u32 (wd b 4), .int .u32 (wd b 5)] 27)) := by
  have h0 := RowAt.new w 6 (wV a) 27
  have h1 := RowAt.new (w.alloc (.cells (rowA 6 (wV a)) 27)) 6 (wV b) 27
  simp only [World.size_alloc] at h1
  exact ⟨((Below.refl _ _).alloc (by simp) _).alloc (by simp) _, by simp, h0.past (by simp) _, h1⟩
theorem TwoN.call {w w1 w2 : World} {a b : Int} (h : TwoN w a b w1) (hb : Below w1.heap.size w1 w2) : TwoN w a b w2 :=
  ⟨h.below.trans (hb.mono (by have := h.size; omega)), Nat.le_trans h.size hb.size, h.ra.below hb (by have := h.size; omega), h.rb.below hb (by have := h.size; omega)⟩
theorem TwoN.drew {w w1 : World} {a b : Int} (h : TwoN w a b w1) : TwoN w a b w1.drew := ⟨h.below.drew, h.size, h.ra.drew, h.rb.drew⟩
theorem TwoN.drewN {w w' : World} {a b : Int} {n : Nat} (h : TwoN w a b w') : TwoN w a b (w'.drewN n) := by
  induction n with
  | zero => exact h
  | succ n ih => exact ih.drew
theorem TwoN.cells {w w' : World} {a b : Int} (h : TwoN w a b w') (k : Nat) (hk : k < 6) : w'.cell? ⟨w.heap.size, k, none⟩ = some (.int .u32 (wd a k)) ∧ w'.cell? ⟨w.heap.size + 1, k, none⟩ = some (.int .u32 (wd b k)) := ⟨h.ra.cell k hk, h.rb.cell k hk⟩
set_option maxRecDepth 100000 in
set_option maxHeartbeats 2000000 in
theorem nn_cmp_ne (a b : Int) (ha : Rg a) (hb : Rg b) (hne : a ≠ b) (w : World) : Calls Try.prog 19 #[nV a, nV b] w (RetX (.int .i64 (sgn a b)) w) := by
  have hE := fun w => eq_six a b ha hb w
  have hg : Try.prog.eqGuardType Try.prog.depth 25 = false := by kernel_rfl
  rw [decide_eq_false hne] at hE
  have HNE := Lib.hid hne
  clear hne
  rw [nV_lit, nV_lit]
  go_enter Try.func19, Try.ntmps19
  go_upto_region 3 with (fail)
  clear hE hg
  have hT := TwoN.begun w a b
  generalize hW : ((w.alloc (.cells #[.int .u32 (wd a 0), .int .u32 (wd a 1), .int .u32 (wd a 2), .int .u32 (wd a 3), .int .u32 (wd a 4), .int .u32 (wd a 5)] 27)).alloc (.cells #[.int .u32 (wd b 0), .int .u32 (wd b 1), .int .u32 (wd b 2), .int .u32 (wd b 3), .int .u32 (wd b 4), .int .u32 (wd b 5)] 27)) = W at hT ⊢
  clear hW
  go_cut [5] (fun x wx => x = .int .i64 (sgn (tp a) (tp b)) ∧ TwoN w a b wx)
  case first =>
    obtain ⟨a0, b0⟩ := hT.cells 0 (by decide)
    obtain ⟨a1, b1⟩ := hT.cells 1 (by decide)
    obtain ⟨a2, b2⟩ := hT.cells 2 (by decide)
    obtain ⟨a3, b3⟩ := hT.cells 3 (by decide)
    obtain ⟨a4, b4⟩ := hT.cells 4 (by decide)
    obtain ⟨a5, b5⟩ := hT.cells 5 (by decide)
    have hs := hT.size
    go_region_with (first
      | (go_at_call 37; refine (nn_topL _ (by assumption) _).mono ?_; rintro e w1 ⟨rfl, hx⟩; first | (have hT2 := hT1.call hx) | (have hT1 := TwoN.call hT.drew hx); obtain ⟨hc, hf, hz⟩ := after (w.heap.size + 2) hx (by assumption) (by assumption))
      | (go_at_call 36; refine (nn_cmp32 _ _ _).mono ?_; rintro e w3 ⟨rfl, rfl⟩))
    all_goals go_wp2_with fail
    all_goals go_meet
    all_goals exact ⟨rfl, hT2⟩
  case rest =>
    obtain ⟨rfl, hT'⟩ := hcut
    clear hT
    by_cases ht : tp a = tp b
    · have t0 : sgn (tp a) (tp b) = 0 := by unfold sgn; rw [if_pos ht]
      rw [t0]; clear t0
      have HT : Hid (a / pw 5 = b / pw 5) := Lib.hid ht
      clear ht
      go_wp2
      go_loopw [6] (fun i w' => ∃ k : Nat, k ≤ 4 ∧ i = .int .i64 k ∧ Hid (a / pw (k + 1) = b / pw (k + 1)) ∧ TwoN w a b w') (fun i _ => (intOf i).toNat)
      case atStart => exact ⟨4, by omega, rfl, HT, hT'⟩
      case round =>
        obtain ⟨k, hk, rfl, HK, hR⟩ := hrel
        clear HT hT'
        have hk6 : (k : Int) < 6 := by omega
        obtain ⟨i0, i1⟩ := hR.cells k (by omega)
        by_cases hz : wd a k = wd b k
        · have hk0 : k ≠ 0 := fun e => HNE.out (by
            subst e
            have := down_eq a b 0 HK.out hz
            rwa [pw_0, Int.ediv_one, Int.ediv_one] at this)
          obtain ⟨j, rfl⟩ := Nat.exists_eq_succ_of_ne_zero hk0
          have HZ := Lib.hid (down_eq a b _ HK.out hz)
          have ej : ((j.succ : Nat) : Int) - 1 = (j : Int) := by omega
          rw [← hz] at i1
          clear hz hk0
          go_wp2
          go_quiet (fail)
          go_wp2
          go_roundw
          case rel =>
            go_light
            exact ⟨j, by omega, by simp, HZ, hR.drewN⟩
          case measure => simp [intOf]
        · have S := Lib.hid (sgn_words a b k HK.out hz)
          have t1 : (wd a k == wd b k) = false := by simpa using hz
          clear hz
          go_wp2
          go_quiet (fail)
          go_wp2
          go_quiet ((go_at_call 38; exact quiet_behind (nn_cmpu _ _ _)))
          go_wp2
          go_ret
          go_light
          refine ⟨?_, (hR.drewN.drewN).below⟩
          show Ending.returned (.int .i64 (sgn (wd a k) (wd b k))) = _
          rw [S.out]
    · have S := Lib.hid (sgn_top a b ht)
      have t0 : (sgn (tp a) (tp b) != 0) = true := by unfold sgn; rw [if_neg ht]; split <;> rfl
      have t1 : (sgn (tp a) (tp b) == 0) = false := by unfold sgn; rw [if_neg ht]; split <;> rfl
      go_wp2
      go_ret
      refine ⟨?_, hT'.below⟩
      show Ending.returned (.int .i64 (sgn (tp a) (tp b))) = _
      rw [S.out]
end Go.Proofs.Ytbacclhnbecojaa
