/- Layer 12: the reference's Put of a further prefix. -/
import Derived.Test.YtmlocfojmncghaaURPutH
namespace Go.Proofs.Ytmlocfojmncghaa
open Go.RowKit
set_option maxRecDepth 100000 in
set_option maxHeartbeats 12000000 in
theorem re_PutR {w : World} {Y bits n0 cap : Nat} {A : Option Addr} {L : List PE} (h : RE w Y bits A n0 cap L) (hn : n0 ≤ 100000) (v : Nat) (hv : v < 2 ^ 128) (n : Nat) (hn8 : n ≤ 128) (id : Int) (hp : hereE v n L = false) (hpre : preU bits v n) (hA : ∃ g, A = some ⟨g, 0, none⟩) : Calls Try.prog 22 #[.pointer (some ⟨Y, 0, none⟩), .agg #[.int .u64 (hi v), .int .u64 (lo v)], .int .i64 (n : Int), .int .i64 id] w fun e w' => e = .returned (.bool true) ∧ LeftE Y bits (n0 + 1) A L (putE v n id L) w w' := by
  have HR := Lib.hid h
  have HB0 : Hid (Below w.heap.size w (w.alloc (.cells #[.int .u64 (hi v), .int .u64 (lo v)] 29))) := Lib.hid ((Below.refl _ w).alloc (Nat.le_refl _) _)
  have HX0 : Hid ((w.alloc (.cells #[.int .u64 (hi v), .int .u64 (lo v)] 29)).heap[w.heap.size]? = some (.cells #[.int .u64 (hi v), .int .u64 (lo v)] 29 (0, 0))) := Lib.hid (heap_alloc_new w _)
  have hpl := re_place (h.below HB0.out) hn v hv (n : Int)
  obtain ⟨i0, hi0, hz0, hy1, hy2⟩ := info_partsU info_rpre
  have HI0 := Lib.hid hi0
  have HZ0 := Lib.hid hz0
  have HY1 := Lib.hid hy1
  have HY2 := Lib.hid hy2
  have hple := plcE_le v n L
  rw [h.len] at hple
  have HPR : Hid (∀ W, Below w.heap.size w W → Calls Try.prog 67 #[.pointer (some ⟨Y, 0, none⟩), .agg #[.int .u64 (hi v), .int .u64 (lo v)], .int .i64 (n : Int)] W (RetX (.bool true) W)) := Lib.hid fun W hb => by
    have := re_prefix (HR.out.below hb) v hv (n : Int)
    rw [decide_eq_true hpre] at this
    exact this
  clear h hi0 hz0 hy1 hy2
  unfold RetPlcE at hpl
  rw [hp] at hpl
  have HP := Lib.hid hp
  clear hp
  obtain ⟨i, hi⟩ : ∃ i, i = plcE v n L := ⟨_, rfl⟩
  rw [← hi] at hpl hple
  have HIP := Lib.hid hi
  clear hi
  go_enter Try.func22, Try.ntmps22
  go_wp2_with (first
    | ((with_reducible refine hpl.mono ?_); rintro e w0 ⟨rfl, hb1⟩; have HB1a := Lib.hid (HB0.out.trans (hb1.mono HB0.out.size)); have hX0 := (hb1.block w.heap.size (by simp)).trans HX0.out; have a0 := blk_cell hX0 0 _ rfl; have a1 := blk_cell hX0 1 _ rfl)
    | ((with_reducible refine (HPR.out _ HB1a.out).mono ?_); rintro e w1 ⟨rfl, hb2⟩))
  have HB1 := Lib.hid (HB1a.out.trans (hb2.mono HB1a.out.size))
  have hX := (hb2.block w.heap.size (heap_ltU hX0)).trans hX0
  have hR1 := HR.out.below HB1.out
  have hwl : w.heap.size < w1.heap.size := heap_ltU hX
  have HX := Lib.hid hX
  have HR1 := Lib.hid hR1
  have HRD : Hid (RE w1 Y bits A n0 cap L) := Lib.hid hR1
  have HKS : Hid (∀ w', Below w1.heap.size w1 w' → Below w1.heap.size w1 w' ∧ w'.cell? ⟨Y, 1, none⟩ = some (.slice A n0 cap) ∧ w'.frozen? ⟨Y, 1, none⟩ = false ∧ w'.cell? ⟨w.heap.size, 0, none⟩ = some (.int .u64 (hi v)) ∧ w'.cell? ⟨w.heap.size, 1, none⟩ = some (.int .u64 (lo v))) := Lib.hid fun w' hb => by
    have q : w'.heap[w.heap.size]? = some (.cells #[.int .u64 (hi v), .int .u64 (lo v)] 29 (0, 0)) := (hb.block w.heap.size hwl).trans HX.out
    exact ⟨hb, (HRD.out.below hb).c, (HRD.out.below hb).froz, blk_cell q 0 _ rfl, blk_cell q 1 _ rfl⟩
  have HOK : Hid (∀ e ∈ putE v n id L, e.v < 2 ^ 128 ∧ e.n ≤ 128) := Lib.hid fun e he => by
    rcases (putE_mem v n id L e).1 he with e2 | e2
    · subst e2; exact ⟨hv, hn8⟩
    · exact HR.out.ok e e2
  clear hb1 hb2 hX hX0 a0 a1 hR1 hpl
  obtain ⟨g, rfl⟩ := hA
  have hcap := HRD.out.room
  have j0 : 0 ≤ (i : Int) := by omega
  have j1 : (i : Int) ≤ (n0 : Int) := by omega
  have j2 : (i : Int) ≤ (cap : Int) := by omega
  have HLT : Hid ((rowE (L.take i)).length = i * 4) := Lib.hid (by rw [rowE_len, List.length_take, HR.out.len, Nat.min_eq_left hple])
  have HLD : Hid ((rowE (L.drop i)).length = (n0 - i) * 4) := Lib.hid (by rw [rowE_len, List.length_drop, HR.out.len])
  have HO1 : Hid (∀ u ∈ PE.cells ⟨v, n, id⟩, u.oneCell' = true) := Lib.hid (by have := rowE_one [⟨v, n, id⟩]; simpa [rowE] using this)
  have HEND : Hid (∀ (w36 : World) (A36 : Option Addr) (c36 : Nat), Below w1.heap.size w1 w36 → w36.ownsRow w1.heap.size 76 4 (.slice A36 (0 + i + 1 + (n0 - i)) c36) (0 + i + 1 + (n0 - i)) ((([] ++ rowE (List.take i L)) ++ (PE.cells ⟨v, n, id⟩)) ++ rowE (List.drop i L)) → RE (w36.setCell ⟨Y, 1, none⟩ (.slice A36 (i + 1 + (n0 - i)) c36)) Y bits A36 (n0 + 1) c36 (putE v n id L) ∧ FrU (fun j => j = Y) w (w36.setCell ⟨Y, 1, none⟩ (.slice A36 (i + 1 + (n0 - i)) c36)) ∧ ∀ g, A36 = some ⟨g, 0, none⟩ → w.heap.size ≤ g) := Lib.hid fun w36 A36 c36 hk ho => by
    have e1 : i + 1 + (n0 - i) = n0 + 1 := by omega
    have e2 : 0 + i + 1 + (n0 - i) = n0 + 1 := by omega
    rw [e2] at ho
    rw [e1]
    rw [List.nil_append, HIP.out, ← rowE_put v n id L] at ho
    exact re_set HB1.out hk HRD.out.lt HRD.out.froz HRD.out.b HRD.out.c ho (putE_asc id HRD.out.asc HP.out) HOK.out (by rw [putE_len, HRD.out.len])
  refine wp_region_lastH (N := 24) (S := fun w' => Below w1.heap.size w1 w' ∧ w'.cell? ⟨Y, 1, none⟩ = some (.slice (some ⟨g, 0, none⟩) n0 cap) ∧ w'.frozen? ⟨Y, 1, none⟩ = false ∧ w'.cell? ⟨w.heap.size, 0, none⟩ = some (.int .u64 (hi v)) ∧ w'.cell? ⟨w.heap.size, 1, none⟩ = some (.int .u64 (lo v))) (by kernel_rfl) (by kernel_rfl) (HKS.out _ (Below.drew (Below.refl _ _))) (fun hHeld => ?_)
  simp only [List.pop_toArray, List.dropLast_cons_cons, List.dropLast_singleton]
  refine wpAnyH_take (i := 0) (oi := _) (v := ?_) rfl (by kernel_rfl) (by kernel_rfl) (by kernel_rfl) (fun _ _ _ h => h) (Or.inl ⟨by rfl, ?_⟩) hHeld ?_
  rotate_left
  · (intro w1 hSw; (try dsimp only at hSw); go_simp; all_goals with_reducible rfl)
  (try go_frame)
  refine wpAnyH_take (i := 2) (oi := _) (v := ?_) rfl (by kernel_rfl) (by kernel_rfl) (by kernel_rfl) (fun _ _ _ h => h) (Or.inl ⟨by rfl, ?_⟩) hHeld ?_
  rotate_left
  · (intro w1 hSw; (try dsimp only at hSw); go_simp; all_goals with_reducible rfl)
  (try go_frame)
  refine wpAnyH_take (i := 3) (oi := _) (v := ?_) rfl (by kernel_rfl) (by kernel_rfl) (by kernel_rfl) (fun _ _ _ h => h) (Or.inl ⟨by rfl, ?_⟩) hHeld ?_
  rotate_left
  · (intro w1 hSw; (try dsimp only at hSw); go_simp; all_goals with_reducible rfl)
  (try go_frame)
  refine wpAnyH_take (i := 4) (oi := _) (v := ?_) rfl (by kernel_rfl) (by kernel_rfl) (by kernel_rfl) (fun _ _ _ h => h) (Or.inl ⟨by rfl, ?_⟩) hHeld ?_
  rotate_left
  · (intro w1 hSw; (try dsimp only at hSw); go_simp; all_goals with_reducible rfl)
  (try go_frame)
  refine wpAnyH_take (i := 5) (oi := _) (v := ?_) rfl (by kernel_rfl) (by kernel_rfl) (by kernel_rfl) (fun _ _ _ h => h) (Or.inl ⟨by rfl, ?_⟩) hHeld ?_
  rotate_left
  · (intro w1 hSw; (try dsimp only at hSw); go_simp; all_goals with_reducible rfl)
  (try go_frame)
  refine wpAnyH_take (i := 6) (oi := _) (v := ?_) rfl (by kernel_rfl) (by kernel_rfl) (by kernel_rfl) (fun _ _ _ h => h) (Or.inl ⟨by rfl, ?_⟩) hHeld ?_
  rotate_left
  · (intro w1 hSw; (try dsimp only at hSw); go_simp; all_goals with_reducible rfl)
  (try go_frame)
  refine wpAnyH_take (i := 7) (oi := _) (v := ?_) rfl (by kernel_rfl) (by kernel_rfl) (by kernel_rfl) (fun _ _ _ h => h) (Or.inl ⟨by rfl, ?_⟩) hHeld ?_
  rotate_left
  · (intro w1 hSw; (try dsimp only at hSw); go_simp; all_goals with_reducible rfl)
  (try go_frame)
  refine wpAnyH_take (i := 9) (oi := _) (v := ?_) rfl (by kernel_rfl) (by kernel_rfl) (by kernel_rfl) (fun _ _ _ h => h) (Or.inl ⟨by rfl, ?_⟩) hHeld ?_
  rotate_left
  · (intro w1 hSw; (try dsimp only at hSw); go_simp; all_goals with_reducible rfl)
  (try go_frame)
  refine wpAnyH_take (i := 10) (oi := _) (v := ?_) rfl (by kernel_rfl) (by kernel_rfl) (by kernel_rfl) (fun _ _ _ h => h) (Or.inl ⟨by rfl, ?_⟩) hHeld ?_
  rotate_left
  · (intro w1 hSw; (try dsimp only at hSw); go_simp; all_goals with_reducible rfl)
  (try go_frame)
  refine wpAnyH_take (i := 11) (oi := _) (v := ?_) rfl (by kernel_rfl) (by kernel_rfl) (by kernel_rfl) (fun _ _ _ h => h) (Or.inl ⟨by rfl, ?_⟩) hHeld ?_
  rotate_left
  · (intro w1 hSw; (try dsimp only at hSw); go_simp; all_goals with_reducible rfl)
  (try go_frame)
  refine wpAnyH_take (i := 12) (oi := _) (v := ?_) rfl (by kernel_rfl) (by kernel_rfl) (by kernel_rfl) (fun _ _ _ h => h) (Or.inl ⟨by rfl, ?_⟩) hHeld ?_
  rotate_left
  · (intro w1 hSw; (try dsimp only at hSw); go_simp; all_goals with_reducible rfl)
  (try go_frame)
  refine wpAnyH_take (i := 15) (oi := _) (v := ?_) rfl (by kernel_rfl) (by kernel_rfl) (by kernel_rfl) (fun _ _ _ h => h) (Or.inl ⟨by rfl, ?_⟩) hHeld ?_
  rotate_left
  · (intro w1 hSw; (try dsimp only at hSw); go_simp; all_goals with_reducible rfl)
  (try go_frame)
  refine wpAnyH_take (i := 16) (oi := _) (v := ?_) rfl (by kernel_rfl) (by kernel_rfl) (by kernel_rfl) (fun _ _ _ h => h) (Or.inl ⟨by rfl, ?_⟩) hHeld ?_
  rotate_left
  · (intro w1 hSw; (try dsimp only at hSw); go_simp; all_goals with_reducible rfl)
  (try go_frame)
  refine wpAnyH_take (i := 17) (oi := _) (v := ?_) rfl (by kernel_rfl) (by kernel_rfl) (by kernel_rfl) (fun _ _ _ h => h) (Or.inl ⟨by rfl, ?_⟩) hHeld ?_
  rotate_left
  · (intro w1 hSw; (try dsimp only at hSw); go_simp; all_goals with_reducible rfl)
  (try go_frame)
  refine wpAnyH_take (i := 18) (oi := _) (v := ?_) rfl (by kernel_rfl) (by kernel_rfl) (by kernel_rfl) (fun _ _ _ h => h) (Or.inl ⟨by rfl, ?_⟩) hHeld ?_
  rotate_left
  · (intro w1 hSw; (try dsimp only at hSw); go_simp; all_goals with_reducible rfl)
  (try go_frame)
  refine wpAnyH_take (i := 19) (oi := _) (v := ?_) rfl (by kernel_rfl) (by kernel_rfl) (by kernel_rfl) (fun _ _ _ h => h) (Or.inl ⟨by rfl, ?_⟩) hHeld ?_
  rotate_left
  · (intro w1 hSw; (try dsimp only at hSw); go_simp; all_goals with_reducible rfl)
  (try go_frame)
  refine wpAnyH_take (i := 20) (oi := _) (v := ?_) rfl (by kernel_rfl) (by kernel_rfl) (by kernel_rfl) (fun _ _ _ h => h) (Or.inl ⟨by rfl, ?_⟩) hHeld ?_
  rotate_left
  · (intro w1 hSw; (try dsimp only at hSw); go_simp; all_goals with_reducible rfl)
  (try go_frame)
  refine wpAnyH_ready (rs := [1, 13]) (by kernel_rfl) (by simp) ?_
  refine AllReadyH.cons (o := _) rfl (fun K hK => ?_) (AllReadyH.cons (o := _) rfl (fun K hK => ?_) AllReadyH.nil)
  · go_simp
    refine hK.out _ _ ?_ (fun hHeld2 => ?_)
    · exact HKS.out _ (below_allocE (And.left hHeld) _)
    clear hK K hHeld
    have hHeld := hHeld2
    clear hHeld2
    (try go_frame)
    refine wpAnyH_ready (rs := [8, 13]) (by kernel_rfl) (by simp) ?_
    refine AllReadyH.cons (o := _) rfl (fun K hK => ?_) (AllReadyH.cons (o := _) rfl (fun K hK => ?_) AllReadyH.nil)
    · refine step_appQ rfl (.tmp 27) (.tmp 33) 62 (by rfl) w1.heap.size 76 i0 _ 4 32 Try.underlying62 HI0.out HZ0.out HY1.out HY2.out rfl (by decide) (.slice (some ⟨w1.heap.size, 0, none⟩) 0 0) 0 _ (by rfl) (own0E w1 _ (Nat.le_refl _)) (some ⟨g, 0, none⟩) i cap (rowE (L.take i)) (by rfl) HLT.out (src_takeE (HRD.out.row.below (bAE w1 _)) (.inr ⟨g, rfl⟩) HRD.out.len HRD.out.room i hple) (rowE_one _) (by unfold maxLen; omega) (by omega) (bAE w1 _).size ?_
      intro v24 w24 hOw24 hgw24 hnw24
      have K24 : Hid (Below w1.heap.size w1 w24) := Lib.hid (below_appE (bAE w1 _) hgw24 (fun g' hg' => by simp [Value.ownBlock] at hg'; omega))
      have R24 : Hid (∀ g', v24.ownBlock = some g' → w1.heap.size ≤ g') := Lib.hid (fun g' e => (World.ownsRow.lt hOw24 g' e).1)
      refine hK.out _ _ ?_ (fun hHeld2 => ?_)
      · exact HKS.out _ K24.out
      clear hK K hHeld
      have hHeld := hHeld2
      clear hHeld2
      (try go_frame)
      refine wpAnyH_ready (rs := [13]) (by kernel_rfl) (by simp) ?_
      refine AllReadyH.cons (o := _) rfl (fun K hK => ?_) AllReadyH.nil
      go_simp
      refine hK.out _ _ ?_ (fun hHeld2 => ?_)
      · exact HKS.out _ (below_allocE (And.left hHeld) _)
      clear hK K hHeld
      have hHeld := hHeld2
      clear hHeld2
      (try go_frame)
      refine wpAnyH_ready (rs := [14]) (by kernel_rfl) (by simp) ?_
      refine AllReadyH.cons (o := _) rfl (fun K hK => ?_) AllReadyH.nil
      refine step_appQ rfl (.tmp 34) (.tmp 39) 62 (by rfl) w1.heap.size 76 i0 _ 4 32 Try.underlying62 HI0.out HZ0.out HY1.out HY2.out rfl (by decide) v24 (0 + i) _ (by rfl) (World.ownsRow.alloc hOw24 _) (some ⟨w24.heap.size, 0, none⟩) 1 1 (PE.cells ⟨v, n, id⟩) (by rfl) rfl (.inr ⟨_, rfl, World.news_of_block (heap_alloc_new w24 _)⟩) HO1.out (by unfold maxLen; omega) (by omega) (K24.out.alloc K24.out.size _).size ?_
      intro v29 w29 hOw29 hgw29 hnw29
      have K29 : Hid (Below w1.heap.size w1 w29) := Lib.hid (below_appE (K24.out.alloc K24.out.size _) hgw29 R24.out)
      have R29 : Hid (∀ g', v29.ownBlock = some g' → w1.heap.size ≤ g') := Lib.hid (fun g' e => (World.ownsRow.lt hOw29 g' e).1)
      refine hK.out _ _ ?_ (fun hHeld2 => ?_)
      · exact HKS.out _ K29.out
      clear hK K hHeld
      have hHeld := hHeld2
      clear hHeld2
      (try go_frame)
      refine wpAnyH_ready (rs := [21]) (by kernel_rfl) (by simp) ?_
      refine AllReadyH.cons (o := _) rfl (fun K hK => ?_) AllReadyH.nil
      refine step_appQ rfl (.tmp 40) (.tmp 46) 62 (by rfl) w1.heap.size 76 i0 _ 4 32 Try.underlying62 HI0.out HZ0.out HY1.out HY2.out rfl (by decide) v29 (0 + i + 1) _ (by rfl) (hOw29) _ (n0 - i) (cap - i) (rowE (L.drop i)) (by rfl) HLD.out (src_dropIE (HRD.out.row.below K29.out) HRD.out.len HRD.out.room i) (rowE_one _) (by unfold maxLen; omega) (by omega) K29.out.size ?_
      intro v36 w36 hOw36 hgw36 hnw36
      obtain ⟨A36, c36, rfl⟩ := own_shapeU hOw36
      have K36 : Hid (Below w1.heap.size w1 w36) := Lib.hid (below_appE K29.out hgw36 R29.out)
      have O36 := Lib.hid hOw36
      refine hK.out _ _ ?_ (fun hHeld2 => ?_)
      · exact HKS.out _ K36.out
      clear hK K hHeld
      have hHeld := hHeld2
      clear hHeld2
      (try go_frame)
      refine wpAnyH_take (i := 22) (oi := _) (v := ?_) rfl (by kernel_rfl) (by kernel_rfl) (by kernel_rfl) (fun _ _ _ h => h) (Or.inl ⟨by rfl, ?_⟩) hHeld ?_
      rotate_left
      · (intro w1 hSw; (try dsimp only at hSw); go_simp; all_goals with_reducible rfl)
      (try go_frame)
      refine wpAnyH_take (i := 23) (oi := _) (v := ?_) rfl (by kernel_rfl) (by kernel_rfl) (by kernel_rfl) (fun _ _ _ h => h) (Or.inl ⟨by rfl, ?_⟩) hHeld ?_
      rotate_left
      · (intro w1 hSw; (try dsimp only at hSw); go_simp; all_goals with_reducible rfl)
      (try go_frame)
      refine wpAnyH_done (by kernel_rfl) ?_ _
      unfold QL
      refine wpOp_step rfl (fun K hK => ?_)
      obtain ⟨-, q1, q2, -⟩ := hHeld
      go_simp
      refine hK _ _ ?_
      clear hK K
      go_wp2_with fail
      all_goals
        go_ret
        obtain ⟨h1, h2, h3⟩ := HEND.out w36 A36 c36 K36.out O36.out
        exact ⟨rfl, ⟨A36, c36, h1, fun g e _ => .inr (h3 g e)⟩, h2⟩
    · go_simp
      refine hK.out _ _ ?_ (fun hHeld2 => ?_)
      · exact HKS.out _ (below_allocE (And.left hHeld) _)
      clear hK K hHeld
      have hHeld := hHeld2
      clear hHeld2
      (try go_frame)
      refine wpAnyH_ready (rs := [8]) (by kernel_rfl) (by simp) ?_
      refine AllReadyH.cons (o := _) rfl (fun K hK => ?_) AllReadyH.nil
      refine step_appQ rfl (.tmp 27) (.tmp 33) 62 (by rfl) w1.heap.size 76 i0 _ 4 32 Try.underlying62 HI0.out HZ0.out HY1.out HY2.out rfl (by decide) (.slice (some ⟨w1.heap.size, 0, none⟩) 0 0) 0 _ (by rfl) (own0aE w1 _ _ (Nat.le_refl _)) (some ⟨g, 0, none⟩) i cap (rowE (L.take i)) (by rfl) HLT.out (src_takeE (HRD.out.row.below (bBE w1 _ _)) (.inr ⟨g, rfl⟩) HRD.out.len HRD.out.room i hple) (rowE_one _) (by unfold maxLen; omega) (by omega) (bBE w1 _ _).size ?_
      intro v24 w24 hOw24 hgw24 hnw24
      have K24 : Hid (Below w1.heap.size w1 w24) := Lib.hid (below_appE (bBE w1 _ _) hgw24 (fun g' hg' => by simp [Value.ownBlock] at hg'; omega))
      have R24 : Hid (∀ g', v24.ownBlock = some g' → w1.heap.size ≤ g') := Lib.hid (fun g' e => (World.ownsRow.lt hOw24 g' e).1)
      have Z24 : Hid (w24.heap[w1.heap.size + 1]? = some (.cells #[.int .u64 (hi v), .int .u64 (lo v), .int .i64 (n : Int), .int .i64 id] 76 (0, 0))) := Lib.hid ((hgw24.block (w1.heap.size + 1) (by simp) (by simp [Value.ownBlock])).trans (blkAE w1 _ _))
      refine hK.out _ _ ?_ (fun hHeld2 => ?_)
      · exact HKS.out _ K24.out
      clear hK K hHeld
      have hHeld := hHeld2
      clear hHeld2
      (try go_frame)
      refine wpAnyH_ready (rs := [14]) (by kernel_rfl) (by simp) ?_
      refine AllReadyH.cons (o := _) rfl (fun K hK => ?_) AllReadyH.nil
      refine step_appQ rfl (.tmp 34) (.tmp 39) 62 (by rfl) w1.heap.size 76 i0 _ 4 32 Try.underlying62 HI0.out HZ0.out HY1.out HY2.out rfl (by decide) v24 (0 + i) _ (by rfl) (hOw24) (some ⟨w1.heap.size + 1, 0, none⟩) 1 1 (PE.cells ⟨v, n, id⟩) (by rfl) rfl (.inr ⟨_, rfl, World.news_of_block (Z24.out)⟩) HO1.out (by unfold maxLen; omega) (by omega) (K24.out).size ?_
      intro v29 w29 hOw29 hgw29 hnw29
      have K29 : Hid (Below w1.heap.size w1 w29) := Lib.hid (below_appE (K24.out) hgw29 R24.out)
      have R29 : Hid (∀ g', v29.ownBlock = some g' → w1.heap.size ≤ g') := Lib.hid (fun g' e => (World.ownsRow.lt hOw29 g' e).1)
      refine hK.out _ _ ?_ (fun hHeld2 => ?_)
      · exact HKS.out _ K29.out
      clear hK K hHeld
      have hHeld := hHeld2
      clear hHeld2
      (try go_frame)
      refine wpAnyH_ready (rs := [21]) (by kernel_rfl) (by simp) ?_
      refine AllReadyH.cons (o := _) rfl (fun K hK => ?_) AllReadyH.nil
      refine step_appQ rfl (.tmp 40) (.tmp 46) 62 (by rfl) w1.heap.size 76 i0 _ 4 32 Try.underlying62 HI0.out HZ0.out HY1.out HY2.out rfl (by decide) v29 (0 + i + 1) _ (by rfl) (hOw29) _ (n0 - i) (cap - i) (rowE (L.drop i)) (by rfl) HLD.out (src_dropIE (HRD.out.row.below K29.out) HRD.out.len HRD.out.room i) (rowE_one _) (by unfold maxLen; omega) (by omega) K29.out.size ?_
      intro v36 w36 hOw36 hgw36 hnw36
      obtain ⟨A36, c36, rfl⟩ := own_shapeU hOw36
      have K36 : Hid (Below w1.heap.size w1 w36) := Lib.hid (below_appE K29.out hgw36 R29.out)
      have O36 := Lib.hid hOw36
      refine hK.out _ _ ?_ (fun hHeld2 => ?_)
      · exact HKS.out _ K36.out
      clear hK K hHeld
      have hHeld := hHeld2
      clear hHeld2
      (try go_frame)
      refine wpAnyH_take (i := 22) (oi := _) (v := ?_) rfl (by kernel_rfl) (by kernel_rfl) (by kernel_rfl) (fun _ _ _ h => h) (Or.inl ⟨by rfl, ?_⟩) hHeld ?_
      rotate_left
      · (intro w1 hSw; (try dsimp only at hSw); go_simp; all_goals with_reducible rfl)
      (try go_frame)
      refine wpAnyH_take (i := 23) (oi := _) (v := ?_) rfl (by kernel_rfl) (by kernel_rfl) (by kernel_rfl) (fun _ _ _ h => h) (Or.inl ⟨by rfl, ?_⟩) hHeld ?_
      rotate_left
      · (intro w1 hSw; (try dsimp only at hSw); go_simp; all_goals with_reducible rfl)
      (try go_frame)
      refine wpAnyH_done (by kernel_rfl) ?_ _
      unfold QL
      refine wpOp_step rfl (fun K hK => ?_)
      obtain ⟨-, q1, q2, -⟩ := hHeld
      go_simp
      refine hK _ _ ?_
      clear hK K
      go_wp2_with fail
      all_goals
        go_ret
        obtain ⟨h1, h2, h3⟩ := HEND.out w36 A36 c36 K36.out O36.out
        exact ⟨rfl, ⟨A36, c36, h1, fun g e _ => .inr (h3 g e)⟩, h2⟩
  · go_simp
    refine hK.out _ _ ?_ (fun hHeld2 => ?_)
    · exact HKS.out _ (below_allocE (And.left hHeld) _)
    clear hK K hHeld
    have hHeld := hHeld2
    clear hHeld2
    (try go_frame)
    refine wpAnyH_ready (rs := [1]) (by kernel_rfl) (by simp) ?_
    refine AllReadyH.cons (o := _) rfl (fun K hK => ?_) AllReadyH.nil
    go_simp
    refine hK.out _ _ ?_ (fun hHeld2 => ?_)
    · exact HKS.out _ (below_allocE (And.left hHeld) _)
    clear hK K hHeld
    have hHeld := hHeld2
    clear hHeld2
    (try go_frame)
    refine wpAnyH_ready (rs := [8]) (by kernel_rfl) (by simp) ?_
    refine AllReadyH.cons (o := _) rfl (fun K hK => ?_) AllReadyH.nil
    refine step_appQ rfl (.tmp 27) (.tmp 33) 62 (by rfl) w1.heap.size 76 i0 _ 4 32 Try.underlying62 HI0.out HZ0.out HY1.out HY2.out rfl (by decide) (.slice (some ⟨w1.heap.size + 1, 0, none⟩) 0 0) 0 _ (by rfl) (own0bE w1 _ _ (Nat.le_refl _)) (some ⟨g, 0, none⟩) i cap (rowE (L.take i)) (by rfl) HLT.out (src_takeE (HRD.out.row.below (bBE w1 _ _)) (.inr ⟨g, rfl⟩) HRD.out.len HRD.out.room i hple) (rowE_one _) (by unfold maxLen; omega) (by omega) (bBE w1 _ _).size ?_
    intro v24 w24 hOw24 hgw24 hnw24
    have K24 : Hid (Below w1.heap.size w1 w24) := Lib.hid (below_appE (bBE w1 _ _) hgw24 (fun g' hg' => by simp [Value.ownBlock] at hg'; omega))
    have R24 : Hid (∀ g', v24.ownBlock = some g' → w1.heap.size ≤ g') := Lib.hid (fun g' e => (World.ownsRow.lt hOw24 g' e).1)
    have Z24 : Hid (w24.heap[w1.heap.size]? = some (.cells #[.int .u64 (hi v), .int .u64 (lo v), .int .i64 (n : Int), .int .i64 id] 76 (0, 0))) := Lib.hid ((hgw24.block w1.heap.size (by simp; omega) (by simp [Value.ownBlock])).trans (blkBE w1 _ _))
    refine hK.out _ _ ?_ (fun hHeld2 => ?_)
    · exact HKS.out _ K24.out
    clear hK K hHeld
    have hHeld := hHeld2
    clear hHeld2
    (try go_frame)
    refine wpAnyH_ready (rs := [14]) (by kernel_rfl) (by simp) ?_
    refine AllReadyH.cons (o := _) rfl (fun K hK => ?_) AllReadyH.nil
    refine step_appQ rfl (.tmp 34) (.tmp 39) 62 (by rfl) w1.heap.size 76 i0 _ 4 32 Try.underlying62 HI0.out HZ0.out HY1.out HY2.out rfl (by decide) v24 (0 + i) _ (by rfl) (hOw24) (some ⟨w1.heap.size, 0, none⟩) 1 1 (PE.cells ⟨v, n, id⟩) (by rfl) rfl (.inr ⟨_, rfl, World.news_of_block (Z24.out)⟩) HO1.out (by unfold maxLen; omega) (by omega) (K24.out).size ?_
    intro v29 w29 hOw29 hgw29 hnw29
    have K29 : Hid (Below w1.heap.size w1 w29) := Lib.hid (below_appE (K24.out) hgw29 R24.out)
    have R29 : Hid (∀ g', v29.ownBlock = some g' → w1.heap.size ≤ g') := Lib.hid (fun g' e => (World.ownsRow.lt hOw29 g' e).1)
    refine hK.out _ _ ?_ (fun hHeld2 => ?_)
    · exact HKS.out _ K29.out
    clear hK K hHeld
    have hHeld := hHeld2
    clear hHeld2
    (try go_frame)
    refine wpAnyH_ready (rs := [21]) (by kernel_rfl) (by simp) ?_
    refine AllReadyH.cons (o := _) rfl (fun K hK => ?_) AllReadyH.nil
    refine step_appQ rfl (.tmp 40) (.tmp 46) 62 (by rfl) w1.heap.size 76 i0 _ 4 32 Try.underlying62 HI0.out HZ0.out HY1.out HY2.out rfl (by decide) v29 (0 + i + 1) _ (by rfl) (hOw29) _ (n0 - i) (cap - i) (rowE (L.drop i)) (by rfl) HLD.out (src_dropIE (HRD.out.row.below K29.out) HRD.out.len HRD.out.room i) (rowE_one _) (by unfold maxLen; omega) (by omega) K29.out.size ?_
    intro v36 w36 hOw36 hgw36 hnw36
    obtain ⟨A36, c36, rfl⟩ := own_shapeU hOw36
    have K36 : Hid (Below w1.heap.size w1 w36) := Lib.hid (below_appE K29.out hgw36 R29.out)
    have O36 := Lib.hid hOw36
    refine hK.out _ _ ?_ (fun hHeld2 => ?_)
    · exact HKS.out _ K36.out
    clear hK K hHeld
    have hHeld := hHeld2
    clear hHeld2
    (try go_frame)
    refine wpAnyH_take (i := 22) (oi := _) (v := ?_) rfl (by kernel_rfl) (by kernel_rfl) (by kernel_rfl) (fun _ _ _ h => h) (Or.inl ⟨by rfl, ?_⟩) hHeld ?_
    rotate_left
    · (intro w1 hSw; (try dsimp only at hSw); go_simp; all_goals with_reducible rfl)
    (try go_frame)
    refine wpAnyH_take (i := 23) (oi := _) (v := ?_) rfl (by kernel_rfl) (by kernel_rfl) (by kernel_rfl) (fun _ _ _ h => h) (Or.inl ⟨by rfl, ?_⟩) hHeld ?_
    rotate_left
    · (intro w1 hSw; (try dsimp only at hSw); go_simp; all_goals with_reducible rfl)
    (try go_frame)
    refine wpAnyH_done (by kernel_rfl) ?_ _
    unfold QL
    refine wpOp_step rfl (fun K hK => ?_)
    obtain ⟨-, q1, q2, -⟩ := hHeld
    go_simp
    refine hK _ _ ?_
    clear hK K
    go_wp2_with fail
    all_goals
      go_ret
      obtain ⟨h1, h2, h3⟩ := HEND.out w36 A36 c36 K36.out O36.out
      exact ⟨rfl, ⟨A36, c36, h1, fun g e _ => .inr (h3 g e)⟩, h2⟩
end Go.Proofs.Ytmlocfojmncghaa
