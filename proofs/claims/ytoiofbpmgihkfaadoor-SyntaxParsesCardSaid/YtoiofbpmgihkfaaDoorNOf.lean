/- matchguardref05: Of. -/
import Derived.Test.YtoiofbpmgihkfaaDoorNRef4
namespace Go.Proofs.YtoiofbpmgihkfaaDoor
open Go.RowKit

theorem tmod_neg (r : Nat) : (-(r : Int)).tmod 10 = -((r % 10 : Nat) : Int) := by
  rw [Int.neg_tmod, Int.tmod_eq_emod_of_nonneg (by omega)]; omega
theorem tdiv_neg (r : Nat) : (-(r : Int)).tdiv 10 = -((r / 10 : Nat) : Int) := by
  rw [Int.neg_tdiv, Int.tdiv_eq_ediv_of_nonneg (by omega)]; omega
theorem of_step {o p r N : Nat} (h : o + p * r = N) : (o + p * (r % 10)) + p * 10 * (r / 10) = N := by
  rw [← h, Nat.mul_assoc, Nat.add_assoc, ← Nat.mul_add]
  congr 2
  omega
theorem pw_room {r k : Nat} (h : r < 10 ^ (20 - k)) (h0 : r ≠ 0) : k < 20 := by
  apply Nat.lt_of_not_le
  intro hk
  rw [Nat.sub_eq_zero_of_le hk] at h
  omega
theorem pw_next {r k : Nat} (h : r < 10 ^ (20 - k)) (hk : k < 20) : r / 10 < 10 ^ (20 - (k + 1)) := by
  rw [show 20 - k = (20 - (k + 1)) + 1 by omega, Nat.pow_succ] at h
  omega
theorem res_app {w W W2 : World} {v : Value} {n : Nat} {l : List Value} (hR : ResAt w W w.heap.size) (h : W.ownsRow (w.heap.size + 1) 3 1 v n l) (o : Obj) (hg : (W.alloc o).grownBy W2 v.ownBlock) : ResAt w W2 w.heap.size := by
  have hl := hR.lt
  have hne : some w.heap.size ≠ v.ownBlock := fun e => by have := own_block_ge h e.symm; omega
  have hb : W2.heap[w.heap.size]? = (W.alloc o).heap[w.heap.size]? := hg.block _ (by simp; omega) hne
  have c : ∀ i, W2.cell? ⟨w.heap.size, i, none⟩ = W.cell? ⟨w.heap.size, i, none⟩ := fun i => by rw [World.cell?_of_block (a := ⟨w.heap.size, i, none⟩) hb, World.cell?_alloc_past _ _ _ hl]
  have f : ∀ i, W2.frozen? ⟨w.heap.size, i, none⟩ = W.frozen? ⟨w.heap.size, i, none⟩ := fun i => by rw [World.frozen?_of_block (a := ⟨w.heap.size, i, none⟩) hb, World.frozen?_alloc_past _ _ _ hl]
  refine ⟨(hR.below.alloc hR.below.size o).grown hg (Nat.le_trans hR.below.size (by simp)) (fun k hk => by have := own_block_ge h hk; omega), Nat.le_refl _, ?_, by rw [c]; exact hR.c0, by rw [c]; exact hR.c1, by rw [f]; exact hR.f0, by rw [f]; exact hR.f1⟩
  have := hg.size; simp at this; omega
set_option maxRecDepth 100000 in
set_option maxHeartbeats 2000000 in
theorem ri_of_pos (N : Nat) (hN : N ≤ 9223372036854775808) (hmax : N < 9223372036854775808) (w : World) : Calls Tryd.prog 46 #[.int .i64 (N : Int)] w (RetF (N : Int) w) := by
  obtain ⟨i0, hi0⟩ : ∃ i, Tryd.prog.info? 3 = some i := Option.isSome_iff_exists.1 (by kernel_rfl)
  have hz0 : i0.zero = some (.int .i64 0) := by
    have : (Tryd.prog.info? 3).map (·.zero) = some (some (.int .i64 0)) := by kernel_rfl
    rw [hi0] at this; simpa using this
  have hy1 : i0.size = 1 := by
    have : (Tryd.prog.info? 3).map (·.size) = some 1 := by kernel_rfl
    rw [hi0] at this; simpa using this
  have hy2 : i0.bytes = 8 := by
    have : (Tryd.prog.info? 3).map (·.bytes) = some 8 := by kernel_rfl
    rw [hi0] at this; simpa using this
  have HI := Lib.hid hi0
  have HZ := Lib.hid hz0
  have HY1 := Lib.hid hy1
  have HY2 := Lib.hid hy2
  clear hi0 hz0 hy1 hy2
  have hsg : decide ((N : Int) < 0) = false := by simp
  have HSG := Lib.hid hsg
  have HB0 := Lib.hid (show N < 10 ^ 20 by omega)
  go_enter Tryd.func46, Tryd.ntmps46
  go_wp2
  clear hsg
  go_loopw [0, 4] (fun t v w' => ∃ (r : Nat) (R : List Nat), r ≤ N ∧ t = .int .i64 (r : Int) ∧ Hid (dv R + 10 ^ R.length * r = N) ∧ Hid (r < 10 ^ (20 - R.length)) ∧ R.length ≤ 20 ∧ Sm R ∧ ResAt w w' w.heap.size ∧ w'.ownsRow (w.heap.size + 1) 3 1 v R.length (dcs R)) (fun t _ _ => (intOf t).natAbs)
  case atStart => exact ⟨N, [], Nat.le_refl _, rfl, Lib.hid (by simp [dv]), Lib.hid HB0.out, by simp, (fun x hx => by cases hx), ResAt.new (Below.refl _ _) _ _ _ _, World.ownsRow_nil _ _ _ _⟩
  case round =>
    obtain ⟨r, R, hr, rfl, HK, HP, hR, hSR, hRes, hO⟩ := hrel
    obtain ⟨AR, capR, rfl⟩ := own_form2 hO
    have HSR := Lib.hid hSR
    have HR := Lib.hid hRes
    have HO := Lib.hid hO
    have hsz : w.heap.size + 1 ≤ wr.heap.size := hRes.lt
    clear hSR hRes hO
    by_cases h0 : r = 0
    · have HV : Hid (dv R = N) := Lib.hid (by have := HK.out; rw [h0] at this; simpa using this)
      subst h0
      have hB := HR.out.below
      have hcap := own_le HO.out
      have hd := dig_own HO.out
      have HD := Lib.hid hd
      clear hd
      go_wp2_with (go_at_call 59; refine (ri_trim _ _ AR capR _ R rfl (by omega) hcap HSR.out HD.out).mono ?_; rintro e w3 ⟨cap', rfl, hD3, hl3, hb3⟩; have HD3 := Lib.hid hD3; have HR3 := Lib.hid (HR.out.call hb3); have f0 := HR3.out.f0; have f1 := HR3.out.f1; obtain ⟨r0, c0⟩ := HR3.out.c0; obtain ⟨r1, r2, r3, c1⟩ := HR3.out.c1; clear hD3)
      refine bodyPost_ret (v := .agg #[.bool (false && decide (0 < dv R)), .slice AR (cd (dv R)).length cap']) (by simp [results, Tryd.results46, go_sem, c0, c1]) rfl ?_
      have hn : Int.natAbs (N : Int) = N := by omega
      refine ⟨_, AR, _, cap', rfl, ⟨?_, by rw [hn, HV.out], hl3, ?_, ?_⟩, store2 HR3.out.below (Nat.le_refl _) _ _⟩
      · rw [HV.out, HSG.out]; simp
      · have := cd_len (n := dv R) (k := 20) (by rw [HV.out]; exact HB0.out); omega
      · rw [hn, ← HV.out]; exact (HD3.out.below hb3).store c0 _ _
    · have hlen := pw_room HP.out h0
      obtain ⟨q, hq⟩ : ∃ q, q = r / 10 := ⟨_, rfl⟩
      obtain ⟨d, hd⟩ : ∃ d, d = r % 10 := ⟨_, rfl⟩
      have hd9 : d < 10 := by omega
      have HQ := Lib.hid hq
      have HDD := Lib.hid hd
      have H0 := Lib.hid h0
      have e1 : (r : Int) % 10 = (d : Int) := by omega
      have e2 : (r : Int) / 10 = (q : Int) := by omega
      have t0 : ((r : Int) == 0) = false := by rw [beq_eq_false_iff_ne]; omega
      have hd0 : ¬ (d : Int) < 0 := by omega
      clear hq hd h0
      go_wp2_with (at_builtin; (refine wpList_append_own _ rfl (.tmp 16) (.tmp 18) 68 rfl (w.heap.size + 1) 3 i0 _ 1 8 Tryd.underlying68 HI.out HZ.out HY1.out HY2.out rfl (by decide) _ R.length _ rfl (World.ownsRow.alloc HO.out _) ⟨wr.heap.size, 0, none⟩ 1 1 [.int .i64 (d : Int)] rfl rfl (cell_one_new _ _ _) (by simp [Value.oneCell']) (by unfold maxLen; omega) (by omega) (by simp; omega) ?_; intro v4 w4 hO4 hg4 hi4; clear hi4; have HO4 := Lib.hid hO4; have HR4 := Lib.hid (res_app HR.out HO.out _ hg4); obtain ⟨A4, cap4, rfl⟩ := own_form2 hO4; clear hO4 hg4))
      go_roundw
      case rel =>
        go_light
        refine ⟨q, R ++ [d], by have := HQ.out; omega, rfl, Lib.hid ?_, Lib.hid ?_, by simp; omega, sm_snoc HSR.out hd9, HR4.out, by rw [dcs_snoc, List.length_append]; exact HO4.out⟩
        · rw [dv_snoc, List.length_append, List.length_singleton, Nat.pow_succ, HQ.out, HDD.out]
          exact of_step HK.out
        · rw [List.length_append, List.length_singleton, HQ.out]; exact pw_next HP.out hlen
      case measure => simp [intOf]; have := HQ.out; have := H0.out; omega
set_option maxRecDepth 100000 in
set_option maxHeartbeats 2000000 in
theorem ri_of_neg (N : Nat) (hN : N ≤ 9223372036854775808) (hpos : 0 < N) (w : World) : Calls Tryd.prog 46 #[.int .i64 (-(N : Int))] w (RetF (-(N : Int)) w) := by
  obtain ⟨i0, hi0⟩ : ∃ i, Tryd.prog.info? 3 = some i := Option.isSome_iff_exists.1 (by kernel_rfl)
  have hz0 : i0.zero = some (.int .i64 0) := by
    have : (Tryd.prog.info? 3).map (·.zero) = some (some (.int .i64 0)) := by kernel_rfl
    rw [hi0] at this; simpa using this
  have hy1 : i0.size = 1 := by
    have : (Tryd.prog.info? 3).map (·.size) = some 1 := by kernel_rfl
    rw [hi0] at this; simpa using this
  have hy2 : i0.bytes = 8 := by
    have : (Tryd.prog.info? 3).map (·.bytes) = some 8 := by kernel_rfl
    rw [hi0] at this; simpa using this
  have HI := Lib.hid hi0
  have HZ := Lib.hid hz0
  have HY1 := Lib.hid hy1
  have HY2 := Lib.hid hy2
  clear hi0 hz0 hy1 hy2
  have hsg : decide ((-(N : Int)) < 0) = true := by simp; omega
  have HSG := Lib.hid hsg
  have HB0 := Lib.hid (show N < 10 ^ 20 by omega)
  go_enter Tryd.func46, Tryd.ntmps46
  go_wp2
  clear hsg
  go_loopw [0, 4] (fun t v w' => ∃ (r : Nat) (R : List Nat), r ≤ N ∧ t = .int .i64 (-(r : Int)) ∧ Hid (dv R + 10 ^ R.length * r = N) ∧ Hid (r < 10 ^ (20 - R.length)) ∧ R.length ≤ 20 ∧ Sm R ∧ ResAt w w' w.heap.size ∧ w'.ownsRow (w.heap.size + 1) 3 1 v R.length (dcs R)) (fun t _ _ => (intOf t).natAbs)
  case atStart => exact ⟨N, [], Nat.le_refl _, rfl, Lib.hid (by simp [dv]), Lib.hid HB0.out, by simp, (fun x hx => by cases hx), ResAt.new (Below.refl _ _) _ _ _ _, World.ownsRow_nil _ _ _ _⟩
  case round =>
    obtain ⟨r, R, hr, rfl, HK, HP, hR, hSR, hRes, hO⟩ := hrel
    obtain ⟨AR, capR, rfl⟩ := own_form2 hO
    have HSR := Lib.hid hSR
    have HR := Lib.hid hRes
    have HO := Lib.hid hO
    have hsz : w.heap.size + 1 ≤ wr.heap.size := hRes.lt
    clear hSR hRes hO
    by_cases h0 : r = 0
    · have HV : Hid (dv R = N) := Lib.hid (by have := HK.out; rw [h0] at this; simpa using this)
      subst h0
      have hB := HR.out.below
      have hcap := own_le HO.out
      have hd := dig_own HO.out
      have HD := Lib.hid hd
      clear hd
      go_wp2_with (go_at_call 59; refine (ri_trim _ _ AR capR _ R rfl (by omega) hcap HSR.out HD.out).mono ?_; rintro e w3 ⟨cap', rfl, hD3, hl3, hb3⟩; have HD3 := Lib.hid hD3; have HR3 := Lib.hid (HR.out.call hb3); have f0 := HR3.out.f0; have f1 := HR3.out.f1; obtain ⟨r0, c0⟩ := HR3.out.c0; obtain ⟨r1, r2, r3, c1⟩ := HR3.out.c1; clear hD3)
      refine bodyPost_ret (v := .agg #[.bool (true && decide (0 < dv R)), .slice AR (cd (dv R)).length cap']) (by simp [results, Tryd.results46, go_sem, c0, c1]) rfl ?_
      have hn : Int.natAbs (-(N : Int)) = N := by omega
      refine ⟨_, AR, _, cap', rfl, ⟨?_, by rw [hn, HV.out], hl3, ?_, ?_⟩, store2 HR3.out.below (Nat.le_refl _) _ _⟩
      · rw [HV.out, HSG.out]; simp; omega
      · have := cd_len (n := dv R) (k := 20) (by rw [HV.out]; exact HB0.out); omega
      · rw [hn, ← HV.out]; exact (HD3.out.below hb3).store c0 _ _
    · have hlen := pw_room HP.out h0
      obtain ⟨q, hq⟩ : ∃ q, q = r / 10 := ⟨_, rfl⟩
      obtain ⟨d, hd⟩ : ∃ d, d = r % 10 := ⟨_, rfl⟩
      have hd9 : d < 10 := by omega
      have HQ := Lib.hid hq
      have HDD := Lib.hid hd
      have H0 := Lib.hid h0
      have e1 := tmod_neg r
      have e2 := tdiv_neg r
      rw [← hd] at e1
      rw [← hq] at e2
      have e3 : -(-(d : Int)) = (d : Int) := by omega
      have t0 : ((-(r : Int)) == 0) = false := by rw [beq_eq_false_iff_ne]; omega
      have hq1 : q ≤ 9223372036854775808 := by omega
      clear hq hd h0
      by_cases hdz : d = 0
      · have HDZ := Lib.hid hdz
        have e1' : (-(r : Int)).tmod 10 = 0 := by rw [e1, hdz]; rfl
        clear e1 e3 hdz
        go_wp2_with (at_builtin; (refine wpList_append_own _ rfl (.tmp 16) (.tmp 18) 68 rfl (w.heap.size + 1) 3 i0 _ 1 8 Tryd.underlying68 HI.out HZ.out HY1.out HY2.out rfl (by decide) _ R.length _ rfl (World.ownsRow.alloc HO.out _) ⟨wr.heap.size, 0, none⟩ 1 1 [.int .i64 (0)] rfl rfl (cell_one_new _ _ _) (by simp [Value.oneCell']) (by unfold maxLen; omega) (by omega) (by simp; omega) ?_; intro v4 w4 hO4 hg4 hi4; clear hi4; have HO4 := Lib.hid hO4; have HR4 := Lib.hid (res_app HR.out HO.out _ hg4); obtain ⟨A4, cap4, rfl⟩ := own_form2 hO4; clear hO4 hg4))
        go_roundw
        case rel =>
          go_light
          refine ⟨q, R ++ [d], by have := HQ.out; omega, rfl, Lib.hid ?_, Lib.hid ?_, by simp; omega, sm_snoc HSR.out hd9, HR4.out, by rw [dcs_snoc, List.length_append]; exact by have h := HO4.out; rw [HDZ.out]; exact h⟩
          · rw [dv_snoc, List.length_append, List.length_singleton, Nat.pow_succ, HQ.out, HDD.out]
            exact of_step HK.out
          · rw [List.length_append, List.length_singleton, HQ.out]; exact pw_next HP.out hlen
        case measure => simp [intOf]; have := HQ.out; have := H0.out; omega
      · have hd0 : (-(d : Int)) < 0 := by omega
        clear hdz
        go_wp2_with (at_builtin; (refine wpList_append_own _ rfl (.tmp 16) (.tmp 18) 68 rfl (w.heap.size + 1) 3 i0 _ 1 8 Tryd.underlying68 HI.out HZ.out HY1.out HY2.out rfl (by decide) _ R.length _ rfl (World.ownsRow.alloc HO.out _) ⟨wr.heap.size, 0, none⟩ 1 1 [.int .i64 ((d : Int))] rfl rfl (cell_one_new _ _ _) (by simp [Value.oneCell']) (by unfold maxLen; omega) (by omega) (by simp; omega) ?_; intro v4 w4 hO4 hg4 hi4; clear hi4; have HO4 := Lib.hid hO4; have HR4 := Lib.hid (res_app HR.out HO.out _ hg4); obtain ⟨A4, cap4, rfl⟩ := own_form2 hO4; clear hO4 hg4))
        go_roundw
        case rel =>
          go_light
          refine ⟨q, R ++ [d], by have := HQ.out; omega, rfl, Lib.hid ?_, Lib.hid ?_, by simp; omega, sm_snoc HSR.out hd9, HR4.out, by rw [dcs_snoc, List.length_append]; exact HO4.out⟩
          · rw [dv_snoc, List.length_append, List.length_singleton, Nat.pow_succ, HQ.out, HDD.out]
            exact of_step HK.out
          · rw [List.length_append, List.length_singleton, HQ.out]; exact pw_next HP.out hlen
        case measure => simp [intOf]; have := HQ.out; have := H0.out; omega
end Go.Proofs.YtoiofbpmgihkfaaDoor
