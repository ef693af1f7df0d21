/- Layer 12: what the laws share: a call's prefix, the chapter's example. -/
import Derived.Test.YtmlocfojmncghaaUAbs
import Derived.Test.YtmlocfojmncghaaUOpen
import Derived.Test.YtmlocfojmncghaaRef
import Derived.Test.YtmlocfojmncghaaSBegun
namespace Go.Proofs.Ytmlocfojmncghaa
open Go.RowKit
def pfA (q : UOp) (b : Nat) : Nat := (lead b ((q.raw : Int) / 4 % 8) ^^^ lead b ((q.raw : Int) / 32)) &&& lead b (q.n % (min (b : Int) 12 + 1))
/-- the value of a call's prefix, and its length -/
def pfV (q : UOp) (b : Nat) : Nat := if q.raw % 4 = 0 then q.v else pfA q b
def pfN (q : UOp) (b : Nat) : Int := if q.raw % 4 = 0 then q.n else q.n % (min (b : Int) 12 + 1)
theorem i64_wfU {x : Int} (h : (Lit.int .i64 x).wf = true) : I64 x := by
  have h2 := i64_of_wf h
  exact h2
theorem ones_128U (k : Int) : ones k < 2 ^ 128 := by
  unfold ones
  have h1 := cl_le k
  have h2 : 2 ^ cl k ≤ 2 ^ 128 := Nat.pow_le_pow_right (by decide) h1
  have h3 : 0 < 2 ^ cl k := Nat.pow_pos (by decide)
  omega
theorem lead_128U (k n : Int) : lead k n < 2 ^ 128 := by
  unfold lead
  exact Nat.xor_lt_two_pow (ones_128U _) (ones_128U _)
theorem pfV_128 (q : UOp) (b : Nat) (hq : q.ok) : pfV q b < 2 ^ 128 := by
  unfold pfV
  split
  · exact hq.2.2.1
  · exact Nat.lt_of_le_of_lt Nat.and_le_left (Nat.xor_lt_two_pow (lead_128U _ _) (lead_128U _ _))
set_option maxRecDepth 100000 in
set_option maxHeartbeats 4000000 in
theorem uo_prefixRaw (q : UOp) (b : Nat) (hr : (q.raw : Int) % 4 = 0) (w : World) : Calls Try.prog 20 #[.agg #[.int .i64 q.kind, .int .u8 q.raw, .int .u64 (hi q.v), .int .u64 (lo q.v), .int .i64 q.n, .int .i64 q.id], .int .i64 b] w (RetX (.tuple #[.agg #[.int .u64 (hi (q.v)), .int .u64 (lo (q.v))], .int .i64 (q.n)]) w) := by
  go_enter Try.func20, Try.ntmps20
  go_wp2
  go_region
  all_goals go_wp2
  all_goals refine bodyPost_ret (v := .tuple #[.agg #[.int .u64 (hi q.v), .int .u64 (lo q.v)], .int .i64 q.n]) (by simp [results, Try.results20, go_sem]) rfl ?_
  all_goals exact ⟨rfl, (((Below.refl _ w).alloc (Nat.le_refl _) _).alloc (by simp) _).drew⟩
set_option maxRecDepth 100000 in
set_option maxHeartbeats 4000000 in
theorem uo_prefixNo (q : UOp) (hq : q.ok) (b : Nat) (hb : 1 ≤ b) (hb8 : b ≤ 128) (hr : ¬ (q.raw : Int) % 4 = 0) (w : World) : Calls Try.prog 20 #[.agg #[.int .i64 q.kind, .int .u8 q.raw, .int .u64 (hi q.v), .int .u64 (lo q.v), .int .i64 q.n, .int .i64 q.id], .int .i64 b] w (RetX (.tuple #[.agg #[.int .u64 (hi (pfA q b)), .int .u64 (lo (pfA q b))], .int .i64 (q.n % (min (b : Int) 12 + 1))]) w) := by
  obtain ⟨W0, hW0⟩ : ∃ W, W = ((w.alloc (.cells #[.int .i64 q.kind, .int .u8 q.raw, .int .u64 (hi q.v), .int .u64 (lo q.v), .int .i64 q.n, .int .i64 q.id] 59)).alloc (.cells #[.int .u64 0, .int .u64 0] 29)) := ⟨_, rfl⟩
  have hB0 : Below w.heap.size w W0 := by rw [hW0]; exact (((Below.refl w.heap.size w).alloc (by simp <;> omega) _).alloc (by simp <;> omega) _)
  have hz0 : W0.heap.size = w.heap.size + 2 := by rw [hW0]; simp
  have b0_0 : W0.heap[w.heap.size]? = some (.cells #[.int .i64 q.kind, .int .u8 q.raw, .int .u64 (hi q.v), .int .u64 (lo q.v), .int .i64 q.n, .int .i64 q.id] 59 (0, 0)) := by
    rw [hW0]
    exact (((Below.refl (w.alloc (.cells #[.int .i64 q.kind, .int .u8 q.raw, .int .u64 (hi q.v), .int .u64 (lo q.v), .int .i64 q.n, .int .i64 q.id] 59)).heap.size (w.alloc (.cells #[.int .i64 q.kind, .int .u8 q.raw, .int .u64 (hi q.v), .int .u64 (lo q.v), .int .i64 q.n, .int .i64 q.id] 59))).alloc (by simp <;> omega) _).block w.heap.size (by simp)).trans (heap_alloc_new _ _)
  have b0_1 : W0.heap[w.heap.size + 1]? = some (.cells #[.int .u64 0, .int .u64 0] 29 (0, 0)) := by
    rw [hW0]
    rw [show w.heap.size + 1 = (w.alloc (.cells #[.int .i64 q.kind, .int .u8 q.raw, .int .u64 (hi q.v), .int .u64 (lo q.v), .int .i64 q.n, .int .i64 q.id] 59)).heap.size by simp]
    exact heap_alloc_new _ _
  have hI64 : I64 q.n := i64_wfU hq.2.2.2.1
  obtain ⟨k, hk⟩ : ∃ k : Int, k = q.n % (min (b : Int) 12 + 1) := ⟨_, rfl⟩
  have hmod : ∀ W, Calls Try.prog 42 #[.int .i64 q.n, .int .i64 (min (b : Int) 12 + 1)] W fun e w' => e = .returned (.int .i64 k) ∧ W = w' := fun W => by rw [hk]; exact mod_any q.n _ hI64 (by omega) (by omega) W
  have hA : pfA q b = (lead b ((q.raw : Int) / 4 % 8) ^^^ lead b ((q.raw : Int) / 32)) &&& lead b k := by unfold pfA; rw [hk]
  rw [hA, ← hk]
  have hmin : min (b : Int) 12 + 1 ≤ 13 := by omega
  have hmin0 : 1 ≤ min (b : Int) 12 + 1 := by omega
  have hr8 : (q.raw : Int) < 256 := by have := hq.2.1; omega
  have x1 : IntKind.i64.wrap ((IntKind.u8.wrap ((q.raw : Int) / 4)).tmod 8) = (q.raw : Int) / 4 % 8 := by
    rw [IntWalk.u8_in _ (by omega), Int.tmod_eq_emod_of_nonneg (by omega), IntWalk.i64_in _ (by omega)]
  have x2 : IntKind.i64.wrap (IntKind.u8.wrap ((q.raw : Int) / 32)) = (q.raw : Int) / 32 := by
    rw [IntWalk.u8_in _ (by omega), IntWalk.i64_in _ (by omega)]
  rw [← x1, ← x2]
  clear x1 x2
  have HKS : Hid (∀ w', Below W0.heap.size W0 w' → Below W0.heap.size W0 w' ∧ w'.cell? ⟨w.heap.size, 0, none⟩ = some (.int .i64 q.kind) ∧ w'.cell? ⟨w.heap.size, 1, none⟩ = some (.int .u8 q.raw)) := Lib.hid fun w' hb => by
    have q0 := (hb.block (w.heap.size) (by omega)).trans b0_0
    exact ⟨hb, blk_cell q0 0 _ rfl, blk_cell q0 1 _ rfl⟩
  have HB0 := Lib.hid hB0
  have HW0 := Lib.hid hW0
  have HQ1 := Lib.hid b0_1
  clear hB0 hW0 b0_0 b0_1 hq hk hA
  go_enter Try.func20, Try.ntmps20
  go_wp2_with (first | (go_at_call 42; (with_reducible refine (hmod _).mono ?_); rintro en w1 ⟨rfl, rfl⟩))
  rw [← HW0.out]
  refine wp_region_noPanic ?_
  refine wp_region_held_drew (S := fun w' => w'.cell? ⟨w.heap.size, 1, none⟩ = some (.int .u8 q.raw)) (by kernel_rfl) (HKS.out _ (Below.drew (Below.refl _ _))).2.2 (fun hHeld => ?_)
  refine wpAnyH_take (i := 0) (v := ?_) rfl (by kernel_rfl) (by kernel_rfl) (by kernel_rfl) (fun _ _ _ h => h) (Or.inl ⟨by rfl, ?_⟩) hHeld ?_
  rotate_left
  · (intro w1 hSw; (try dsimp only at hSw); (try obtain ⟨sA, sB⟩ := hSw); go_simp; all_goals with_reducible rfl)
  (try go_frame)
  refine wpAnyH_take (i := 1) (v := ?_) rfl (by kernel_rfl) (by kernel_rfl) (by kernel_rfl) (fun _ _ _ h => h) (Or.inl ⟨by rfl, ?_⟩) hHeld ?_
  rotate_left
  · (intro w1 hSw; (try dsimp only at hSw); (try obtain ⟨sA, sB⟩ := hSw); go_simp; all_goals with_reducible rfl)
  (try go_frame)
  refine wpAnyH_take (i := 2) (v := ?_) rfl (by kernel_rfl) (by kernel_rfl) (by kernel_rfl) (fun _ _ _ h => h) (Or.inl ⟨by rfl, ?_⟩) hHeld ?_
  rotate_left
  · (intro w1 hSw; (try dsimp only at hSw); (try obtain ⟨sA, sB⟩ := hSw); go_simp; all_goals with_reducible rfl)
  (try go_frame)
  refine wpAnyH_take (i := 3) (v := ?_) rfl (by kernel_rfl) (by kernel_rfl) (by kernel_rfl) (fun _ _ _ h => h) (Or.inl ⟨by rfl, ?_⟩) hHeld ?_
  rotate_left
  · (intro w1 hSw; (try dsimp only at hSw); (try obtain ⟨sA, sB⟩ := hSw); go_simp; all_goals with_reducible rfl)
  (try go_frame)
  refine wpAnyH_take (i := 4) (v := ?_) rfl (by kernel_rfl) (by kernel_rfl) (by kernel_rfl) (fun _ _ _ h => h) (Or.inl ⟨by rfl, ?_⟩) hHeld ?_
  rotate_left
  · (intro w1 hSw; (try dsimp only at hSw); (try obtain ⟨sA, sB⟩ := hSw); go_simp; all_goals with_reducible rfl)
  (try go_frame)
  refine wpAnyH_take (i := 5) (v := ?_) rfl (by kernel_rfl) (by kernel_rfl) (by kernel_rfl) (fun _ _ _ h => h) (Or.inl ⟨by rfl, ?_⟩) hHeld ?_
  rotate_left
  · (intro w1 hSw; (try dsimp only at hSw); (try obtain ⟨sA, sB⟩ := hSw); go_simp; all_goals with_reducible rfl)
  (try go_frame)
  refine wpAnyH_take (i := 7) (v := ?_) rfl (by kernel_rfl) (by kernel_rfl) (by kernel_rfl) (fun _ _ _ h => h) (Or.inl ⟨by rfl, ?_⟩) hHeld ?_
  rotate_left
  · (intro w1 hSw; (try dsimp only at hSw); (try obtain ⟨sA, sB⟩ := hSw); go_simp; all_goals with_reducible rfl)
  (try go_frame)
  refine wpAnyH_take (i := 8) (v := ?_) rfl (by kernel_rfl) (by kernel_rfl) (by kernel_rfl) (fun _ _ _ h => h) (Or.inl ⟨by rfl, ?_⟩) hHeld ?_
  rotate_left
  · (intro w1 hSw; (try dsimp only at hSw); (try obtain ⟨sA, sB⟩ := hSw); go_simp; all_goals with_reducible rfl)
  (try go_frame)
  refine wpAnyH_take (i := 9) (v := ?_) rfl (by kernel_rfl) (by kernel_rfl) (by kernel_rfl) (fun _ _ _ h => h) (Or.inl ⟨by rfl, ?_⟩) hHeld ?_
  rotate_left
  · (intro w1 hSw; (try dsimp only at hSw); (try obtain ⟨sA, sB⟩ := hSw); go_simp; all_goals with_reducible rfl)
  (try go_frame)
  refine wpAnyH_take (i := 10) (v := ?_) rfl (by kernel_rfl) (by kernel_rfl) (by kernel_rfl) (fun _ _ _ h => h) (Or.inl ⟨by rfl, ?_⟩) hHeld ?_
  rotate_left
  · (intro w1 hSw; (try dsimp only at hSw); (try obtain ⟨sA, sB⟩ := hSw); go_simp; all_goals with_reducible rfl)
  (try go_frame)
  refine wpAnyH_take (i := 11) (v := ?_) rfl (by kernel_rfl) (by kernel_rfl) (by kernel_rfl) (fun _ _ _ h => h) (Or.inl ⟨by rfl, ?_⟩) hHeld ?_
  rotate_left
  · (intro w1 hSw; (try dsimp only at hSw); (try obtain ⟨sA, sB⟩ := hSw); go_simp; all_goals with_reducible rfl)
  (try go_frame)
  refine wpAnyH_take (i := 14) (v := ?_) rfl (by kernel_rfl) (by kernel_rfl) (by kernel_rfl) (fun _ _ _ h => h) (Or.inl ⟨by rfl, ?_⟩) hHeld ?_
  rotate_left
  · (intro w1 hSw; (try dsimp only at hSw); (try obtain ⟨sA, sB⟩ := hSw); go_simp; all_goals with_reducible rfl)
  (try go_frame)
  refine wpAnyH_take (i := 15) (v := ?_) rfl (by kernel_rfl) (by kernel_rfl) (by kernel_rfl) (fun _ _ _ h => h) (Or.inl ⟨by rfl, ?_⟩) hHeld ?_
  rotate_left
  · (intro w1 hSw; (try dsimp only at hSw); (try obtain ⟨sA, sB⟩ := hSw); go_simp; all_goals with_reducible rfl)
  (try go_frame)
  refine wpAnyH_take (i := 18) (v := ?_) rfl (by kernel_rfl) (by kernel_rfl) (by kernel_rfl) (fun _ _ _ h => h) (Or.inl ⟨by rfl, ?_⟩) hHeld ?_
  rotate_left
  · (intro w1 hSw; (try dsimp only at hSw); (try obtain ⟨sA, sB⟩ := hSw); go_simp; all_goals with_reducible rfl)
  (try go_frame)
  refine wpAnyH_ready (rs := [6]) (by kernel_rfl) (by simp) ?_
  refine AllReadyH.cons rfl (fun K hK => ?_) AllReadyH.nil
  go_simp
  go_wp2_with (go_at_call 61; (with_reducible refine (rleading_any _ _ _).mono ?_); rintro en v6 ⟨rfl, hv6⟩; have hB6 : Below W0.heap.size W0 v6 := below_call (Below.drew (Below.refl _ W0)) hv6)
  refine hK.out _ _ ?_ (fun hHeld2 => ?_)
  · exact (HKS.out _ hB6).2.2
  clear hK K hHeld
  have hHeld := hHeld2
  clear hHeld2
  (try go_frame)
  refine wpAnyH_ready (rs := [12]) (by kernel_rfl) (by simp) ?_
  refine AllReadyH.cons rfl (fun K hK => ?_) AllReadyH.nil
  go_simp
  go_wp2_with (go_at_call 61; (with_reducible refine (rleading_any _ _ _).mono ?_); rintro en v12 ⟨rfl, hv12⟩; have hB12 : Below W0.heap.size W0 v12 := below_call (hB6) hv12)
  refine hK.out _ _ ?_ (fun hHeld2 => ?_)
  · exact (HKS.out _ hB12).2.2
  clear hK K hHeld
  have hHeld := hHeld2
  clear hHeld2
  (try go_frame)
  refine wpAnyH_ready (rs := [13]) (by kernel_rfl) (by simp) ?_
  refine AllReadyH.cons rfl (fun K hK => ?_) AllReadyH.nil
  go_simp
  go_wp2_with (go_at_call 33; (with_reducible refine (rxor_any _ _ (lead_128U _ _) (lead_128U _ _) _).mono ?_); rintro en v13 ⟨rfl, hv13⟩; have hB13 : Below W0.heap.size W0 v13 := below_call (hB12) hv13)
  refine hK.out _ _ ?_ (fun hHeld2 => ?_)
  · exact (HKS.out _ hB13).2.2
  clear hK K hHeld
  have hHeld := hHeld2
  clear hHeld2
  (try go_frame)
  refine wpAnyH_ready (rs := [16]) (by kernel_rfl) (by simp) ?_
  refine AllReadyH.cons rfl (fun K hK => ?_) AllReadyH.nil
  go_simp
  go_wp2_with (go_at_call 61; (with_reducible refine (rleading_any _ _ _).mono ?_); rintro en v16 ⟨rfl, hv16⟩; have hB16 : Below W0.heap.size W0 v16 := below_call (hB13) hv16)
  refine hK.out _ _ ?_ (fun hHeld2 => ?_)
  · exact (HKS.out _ hB16).2.2
  clear hK K hHeld
  have hHeld := hHeld2
  clear hHeld2
  (try go_frame)
  refine wpAnyH_ready (rs := [17]) (by kernel_rfl) (by simp) ?_
  refine AllReadyH.cons rfl (fun K hK => ?_) AllReadyH.nil
  go_simp
  go_wp2_with fail
  (with_reducible refine (rand_any _ _ (Nat.xor_lt_two_pow (lead_128U _ _) (lead_128U _ _)) (lead_128U _ _) _).mono ?_)
  rintro en v17 ⟨rfl, hv17⟩
  have hB17 : Below W0.heap.size W0 v17 := below_call (hB16) hv17
  have qr := (hB17.block (w.heap.size + 1) (by omega)).trans HQ1.out
  have z0 := blk_cell qr 0 _ rfl
  have z1 := blk_cell qr 1 _ rfl
  have zf0 : v17.frozen? ⟨w.heap.size + 1, 0, none⟩ = false := by (simp [World.frozen?, qr])
  have zf1 : v17.frozen? ⟨w.heap.size + 1, 1, none⟩ = false := by (simp [World.frozen?, qr])
  refine hK.out _ _ ?_ (fun hHeld2 => ?_)
  · exact (HKS.out _ hB17).2.2
  clear hK K hHeld
  have hHeld := hHeld2
  clear hHeld2
  (try go_frame)
  refine wpAnyH_ready (rs := [19]) (by kernel_rfl) (by simp) ?_
  refine AllReadyH.cons rfl (fun K hK => ?_) AllReadyH.nil
  go_simp
  go_wp2_with fail
  refine hK.out _ _ ?_ (fun hHeld2 => ?_)
  · exact (World.cell?_setCell_far _ _ _ _ (by show w.heap.size + 1 ≠ w.heap.size; omega)).trans ((World.cell?_setCell_far _ _ _ _ (by show w.heap.size + 1 ≠ w.heap.size; omega)).trans (HKS.out _ hB17).2.2)
  clear hK K hHeld
  have hHeld := hHeld2
  clear hHeld2
  (try go_frame)
  refine wpAnyH_ready (rs := [20]) (by kernel_rfl) (by simp) ?_
  refine AllReadyH.cons rfl (fun K hK => ?_) AllReadyH.nil
  go_simp
  go_wp2_with fail
  refine hK.out _ _ ?_ (fun hHeld2 => ?_)
  · exact hHeld
  clear hK K hHeld
  have hHeld := hHeld2
  clear hHeld2
  (try go_frame)
  refine wpAnyH_done (by kernel_rfl) ?_ _
  refine NoPanic.normal ?_
  generalize hx : (lead b (IntKind.i64.wrap ((IntKind.u8.wrap ((q.raw : Int) / 4)).tmod 8)) ^^^ lead b (IntKind.i64.wrap (IntKind.u8.wrap ((q.raw : Int) / 32)))) &&& lead b k = x
  have hfin := blk_set (blk_set qr 0 (.int .u64 (hi x))) 1 (.int .u64 (lo x))
  have k0 := blk_cell hfin 0 (.int .u64 (hi x)) rfl
  have k1 := blk_cell hfin 1 (.int .u64 (lo x)) rfl
  have hBf : Below w.heap.size w ((v17.setCell ⟨w.heap.size + 1, 0, none⟩ (.int .u64 (hi x))).setCell ⟨w.heap.size + 1, 1, none⟩ (.int .u64 (lo x))) := ((HB0.out.trans (hB17.mono HB0.out.size)).setCell (p := ⟨w.heap.size + 1, 0, none⟩) (by show w.heap.size ≤ w.heap.size + 1; omega) _).setCell (p := ⟨w.heap.size + 1, 1, none⟩) (by show w.heap.size ≤ w.heap.size + 1; omega) _
  (try go_frame)
  go_wp2
  (try go_frame)
  refine bodyPost_ret (v := .tuple #[.agg #[.int .u64 (hi x), .int .u64 (lo x)], .int .i64 k]) (by simp [results, Try.results20, go_sem, k0, k1]) rfl ?_
  exact ⟨by rw [hx], hBf⟩
theorem uo_prefix (q : UOp) (hq : q.ok) (b : Nat) (hb : 1 ≤ b) (hb8 : b ≤ 128) (w : World) : Calls Try.prog 20 #[.agg #[.int .i64 q.kind, .int .u8 q.raw, .int .u64 (hi q.v), .int .u64 (lo q.v), .int .i64 q.n, .int .i64 q.id], .int .i64 b] w (RetX (.tuple #[.agg #[.int .u64 (hi (pfV q b)), .int .u64 (lo (pfV q b))], .int .i64 (pfN q b)]) w) := by
  unfold pfV pfN
  by_cases h : q.raw % 4 = 0
  · rw [if_pos h, if_pos h]
    exact uo_prefixRaw q b (by omega) w
  · rw [if_neg h, if_neg h]
    exact uo_prefixNo q hq b hb hb8 (by omega) w
abbrev P1U : Pth := [false, false, false, false, true, false, true, false]
abbrev P2U : Pth := [false, false, false, false, true, false, true, false, false, false, false, false, false, false, false, true]
theorem nodes17 : NodesIs (putU (putU (fun _ => none) (some P1U) 1) (some P2U) 2) 17 := by
  refine ⟨[P2U, P1U], (List.range 17).map fun k => P2U.take k, ⟨by decide, fun q => ?_⟩, by decide, fun p => ?_, by simp⟩
  · have e : putU (putU (fun _ => none) (some P1U) 1) (some P2U) 2 = updU (updU (fun _ => none) P1U (some 1)) P2U (some 2) := rfl
    rw [e]
    by_cases h2 : q = P2U
    · subst h2; rw [updU_same]; simp
    · rw [updU_other _ _ h2]
      by_cases h1 : q = P1U
      · subst h1; rw [updU_same]; simp
      · rw [updU_other _ _ h1]
        simp [h1, h2]
  · have h12 : P1U <+: P2U := ⟨P2U.drop 8, rfl⟩
    have hc : 0 < cntU [P2U, P1U] p ↔ p <+: P2U := by
      unfold cntU
      rw [List.length_pos_iff_exists_mem]
      constructor
      · rintro ⟨q, hq⟩
        obtain ⟨h1, h2⟩ := List.mem_filter.1 hq
        have h2 := List.isPrefixOf_iff_prefix.1 h2
        rcases List.mem_cons.1 h1 with h | h
        · rw [h] at h2; exact h2
        · rw [List.mem_singleton] at h
          rw [h] at h2; exact h2.trans h12
      · intro h
        exact ⟨P2U, List.mem_filter.2 ⟨List.mem_cons_self .., List.isPrefixOf_iff_prefix.2 h⟩⟩
    rw [hc, List.mem_map]
    constructor
    · rintro ⟨k, _, rfl⟩
      exact List.take_prefix _ _
    · intro h
      refine ⟨p.length, List.mem_range.2 ?_, (List.prefix_iff_eq_take.1 h).symm⟩
      have := h.length_le
      simp at this
      omega
set_option maxRecDepth 100000 in
set_option maxHeartbeats 2000000 in
theorem ub_begun (w : World) : Calls Try.prog 32 #[] w (RetX (.bool true) w) := by
  have hN := s_new 32 w
  have hb32 : bitsU 32 = 32 := rfl
  go_enter Try.func32, Try.ntmps32
  go_wp2_with ((with_reducible refine hN.mono ?_); rintro e w1 ⟨rfl, hb1, hz1, hS1⟩)
  rw [hb32] at hS1
  have HB1 := Lib.hid hb1
  have HZ1 := Lib.hid hz1
  have h1 := s_put hS1 (by omega) (by omega) 167772160 (by decide) 8 1
  rw [show hi 167772160 = 0 from by decide, show lo 167772160 = 167772160 from by decide] at h1
  have e1 : keyU 32 167772160 8 = some [false, false, false, false, true, false, true, false] := by decide
  rw [e1] at h1
  clear hb1 hS1 hN hz1
  refine h1.mono ?_
  clear h1
  rintro e w2 ⟨rfl, ⟨⟨F2, hS2, hF2⟩, hfr2⟩⟩
  have HF2 := Lib.hid hF2
  have HR2 := Lib.hid hfr2
  have h2 := s_put hS2 (by omega) (by omega) 167837696 (by decide) 16 2
  rw [show hi 167837696 = 0 from by decide, show lo 167837696 = 167837696 from by decide] at h2
  have e2 : keyU 32 167837696 16 = some [false, false, false, false, true, false, true, false, false, false, false, false, false, false, false, true] := by decide
  rw [e2] at h2
  clear hS2 hF2 hfr2
  go_wp2_with fail
  refine h2.mono ?_
  clear h2
  rintro e w3 ⟨rfl, ⟨⟨F3, hS3, hF3⟩, hfr3⟩⟩
  have HF3 := Lib.hid hF3
  have HR3 := Lib.hid hfr3
  have h3 := s_lng hS3 (by omega) 167838211 (by decide)
  rw [show hi 167838211 = 0 from by decide, show lo 167838211 = 167838211 from by decide] at h3
  have e3 : lngM (putU (putU (fun _ => none) (some [false, false, false, false, true, false, true, false]) 1) (some [false, false, false, false, true, false, true, false, false, false, false, false, false, false, false, true]) 2) 32 167838211 = (16, 2, true) := by decide
  rw [e3] at h3
  have HS3 := Lib.hid hS3
  clear hS3 hF3 hfr3 e1 e2 e3
  obtain ⟨k17, hk17, _⟩ := s_nodes HS3.out
  obtain rfl : k17 = 17 := hk17.uniq nodes17
  have hnd : ∀ w4, Below w3.heap.size w3 w4 → Calls Try.prog 30 #[.pointer (some ⟨w.heap.size, 0, none⟩)] w4 fun e w' => e = .returned (.int .i64 17) ∧ w' = w4 := fun w4 h4 => by
    obtain ⟨k, hk, hc⟩ := s_nodes (HS3.out.below h4)
    obtain rfl : k = 17 := hk.uniq nodes17
    exact hc
  have HND := Lib.hid hnd
  clear hnd hk17
  go_wp2_with ((with_reducible refine h3.mono ?_); rintro e w4 ⟨rfl, hb4⟩)
  refine (HND.out _ hb4).mono ?_
  rintro e w5 ⟨rfl, rfl⟩
  go_wp2_with fail
  go_ret
  have b2 : Below w.heap.size w1 w2 := HR2.out.below HB1.out.size (fun j hj => by omega)
  have b3 : Below w.heap.size w2 w3 := HR3.out.below (Nat.le_trans HB1.out.size b2.size) (fun j hj => by
    have h0 := HB1.out.size
    rcases HF2.out j hj with h | h <;> omega)
  have b13 := (HB1.out.trans b2).trans b3
  exact ⟨rfl, b13.trans (hb4.mono b13.size)⟩
end Go.Proofs.Ytmlocfojmncghaa
