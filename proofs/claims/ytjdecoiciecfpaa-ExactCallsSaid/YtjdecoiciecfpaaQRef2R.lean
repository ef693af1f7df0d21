/- Layer 11: the reference's Put of a new point: qr_PutR. -/
import Derived.Test.YtjdecoiciecfpaaQRefH
namespace Go.Proofs.Ytjdecoiciecfpaa
open Go.RowKit Go.Maps Go.Sort
set_option maxRecDepth 100000 in
set_option maxHeartbeats 12000000 in
theorem qr_PutR {w : World} {Y n cap : Nat} {A : Option Addr} {pts : List Pt} {f : Pt → Int} (h : RI w Y A n cap pts f) (hn : n ≤ 100000) (p : Pt) (id : Int) (hp : p ∉ pts) (hA : ∃ g, A = some ⟨g, 0, none⟩) : Calls Try.prog 32 #[.pointer (some ⟨Y, 0, none⟩), ptV p, .int .i64 id] w (RetRPut Y n pts f p id w) := by
  have HR := Lib.hid h
  have HB0 : Hid (Below w.heap.size w (w.alloc (.cells #[.int .u64 (hi p.a), .int .u64 (lo p.a), .int .u64 (hi p.b), .int .u64 (lo p.b), .int .u64 (hi p.c), .int .u64 (lo p.c), .int .u64 (hi p.d), .int .u64 (lo p.d)] 29))) := Lib.hid ((Below.refl _ w).alloc (Nat.le_refl _) _)
  have HX0 : Hid ((w.alloc (.cells #[.int .u64 (hi p.a), .int .u64 (lo p.a), .int .u64 (hi p.b), .int .u64 (lo p.b), .int .u64 (hi p.c), .int .u64 (lo p.c), .int .u64 (hi p.d), .int .u64 (lo p.d)] 29)).heap[w.heap.size]? = some (.cells #[.int .u64 (hi p.a), .int .u64 (lo p.a), .int .u64 (hi p.b), .int .u64 (lo p.b), .int .u64 (hi p.c), .int .u64 (lo p.c), .int .u64 (hi p.d), .int .u64 (lo p.d)] 29 (0, 0))) := Lib.hid (heap_alloc_new w _)
  have hpl := qr_place (h.below HB0.out) hn p
  obtain ⟨i0, hi0, hz0, hy1, hy2⟩ := info_partsQ info_rpair
  have HI0 := Lib.hid hi0
  have HZ0 := Lib.hid hz0
  have HY1 := Lib.hid hy1
  have HY2 := Lib.hid hy2
  have hple := plc_le p pts
  rw [h.len] at hple
  clear h hi0 hz0 hy1 hy2
  unfold RetPlace at hpl
  · rw [decide_eq_false hp] at hpl
    have HP := Lib.hid hp
    clear hp
    obtain ⟨i, hi⟩ : ∃ i, i = plc p pts := ⟨_, rfl⟩
    rw [← hi] at hpl hple
    have HIP := Lib.hid hi
    clear hi
    unfold ptV at hpl ⊢
    go_enter Try.func32, Try.ntmps32
    go_wp2_with ((with_reducible refine hpl.mono ?_); rintro e w1 ⟨rfl, hb1⟩)
    have HB1 := Lib.hid (HB0.out.trans (hb1.mono HB0.out.size))
    have hX := (hb1.block w.heap.size (by simp)).trans HX0.out
    have hR1 := HR.out.below HB1.out
    have hwl : w.heap.size < w1.heap.size := World.block_lt_of_cell? _ _ (blk_cellQ hX 0 _ rfl)
    have HX := Lib.hid hX
    have HR1 := Lib.hid hR1
    have HRD : Hid (RI w1 Y A n cap pts f) := Lib.hid hR1
    have HKS : Hid (∀ w', Below w1.heap.size w1 w' → Below w1.heap.size w1 w' ∧ w'.cell? ⟨Y, 0, none⟩ = some (.slice A n cap) ∧ w'.frozen? ⟨Y, 0, none⟩ = false ∧ w'.cell? ⟨w.heap.size, 0, none⟩ = some (.int .u64 (hi p.a)) ∧ w'.cell? ⟨w.heap.size, 1, none⟩ = some (.int .u64 (lo p.a)) ∧ w'.cell? ⟨w.heap.size, 2, none⟩ = some (.int .u64 (hi p.b)) ∧ w'.cell? ⟨w.heap.size, 3, none⟩ = some (.int .u64 (lo p.b)) ∧ w'.cell? ⟨w.heap.size, 4, none⟩ = some (.int .u64 (hi p.c)) ∧ w'.cell? ⟨w.heap.size, 5, none⟩ = some (.int .u64 (lo p.c)) ∧ w'.cell? ⟨w.heap.size, 6, none⟩ = some (.int .u64 (hi p.d)) ∧ w'.cell? ⟨w.heap.size, 7, none⟩ = some (.int .u64 (lo p.d))) := Lib.hid fun w' hb => by
      have q : w'.heap[w.heap.size]? = some (.cells #[.int .u64 (hi p.a), .int .u64 (lo p.a), .int .u64 (hi p.b), .int .u64 (lo p.b), .int .u64 (hi p.c), .int .u64 (lo p.c), .int .u64 (hi p.d), .int .u64 (lo p.d)] 29 (0, 0)) := (hb.block w.heap.size hwl).trans HX.out
      exact ⟨hb, (HRD.out.below hb).c, (HRD.out.below hb).froz, blk_cellQ q 0 _ rfl, blk_cellQ q 1 _ rfl, blk_cellQ q 2 _ rfl, blk_cellQ q 3 _ rfl, blk_cellQ q 4 _ rfl, blk_cellQ q 5 _ rfl, blk_cellQ q 6 _ rfl, blk_cellQ q 7 _ rfl⟩
    clear hb1 hX hR1 hpl
    obtain ⟨g, rfl⟩ := hA
    · have hcap := HRD.out.room
      have j0 : 0 ≤ (i : Int) := by omega
      have j1 : (i : Int) ≤ (n : Int) := by omega
      have j2 : (i : Int) ≤ (cap : Int) := by omega
      have HLT : Hid ((rowP f (pts.take i)).length = i * 9) := Lib.hid (by rw [rowP_len, List.length_take, HR.out.len, Nat.min_eq_left hple])
      have HLD : Hid ((rowP f (pts.drop i)).length = (n - i) * 9) := Lib.hid (by rw [rowP_len, List.length_drop, HR.out.len])
      have HO1 : Hid (∀ u ∈ p.cells ++ [Value.int .i64 id], u.oneCell' = true) := Lib.hid (encP_one (fun _ => id) p)
      have HEND : Hid (∀ (w36 : World) (A36 : Option Addr) (c36 : Nat), Below w1.heap.size w1 w36 → w36.ownsRow w1.heap.size 144 9 (.slice A36 (0 + i + 1 + (n - i)) c36) (0 + i + 1 + (n - i)) ((([] ++ rowP f (pts.take i)) ++ (p.cells ++ [Value.int .i64 id])) ++ rowP f (pts.drop i)) → RI (w36.setCell ⟨Y, 0, none⟩ (.slice A36 (i + 1 + (n - i)) c36)) Y A36 (n + 1) c36 (putL p pts) (updF f p id) ∧ FrX w (w36.setCell ⟨Y, 0, none⟩ (.slice A36 (i + 1 + (n - i)) c36)) Y) := Lib.hid fun w36 A36 c36 hk ho => by
        have e1 : i + 1 + (n - i) = n + 1 := by omega
        have e2 : 0 + i + 1 + (n - i) = n + 1 := by omega
        rw [e2] at ho
        rw [e1]
        rw [List.nil_append, HIP.out, ← rowP_put f p id pts HP.out] at ho
        exact ri_set HB1.out hk HRD.out.lt HRD.out.froz HRD.out.c ho (putL_asc p pts HRD.out.asc HP.out) (by rw [putL_len, HRD.out.len])
      refine wp_region_lastH (N := 23) (S := fun w' => Below w1.heap.size w1 w' ∧ w'.cell? ⟨Y, 0, none⟩ = some (.slice (some ⟨g, 0, none⟩) n cap) ∧ w'.frozen? ⟨Y, 0, none⟩ = false ∧ w'.cell? ⟨w.heap.size, 0, none⟩ = some (.int .u64 (hi p.a)) ∧ w'.cell? ⟨w.heap.size, 1, none⟩ = some (.int .u64 (lo p.a)) ∧ w'.cell? ⟨w.heap.size, 2, none⟩ = some (.int .u64 (hi p.b)) ∧ w'.cell? ⟨w.heap.size, 3, none⟩ = some (.int .u64 (lo p.b)) ∧ w'.cell? ⟨w.heap.size, 4, none⟩ = some (.int .u64 (hi p.c)) ∧ w'.cell? ⟨w.heap.size, 5, none⟩ = some (.int .u64 (lo p.c)) ∧ w'.cell? ⟨w.heap.size, 6, none⟩ = some (.int .u64 (hi p.d)) ∧ w'.cell? ⟨w.heap.size, 7, none⟩ = some (.int .u64 (lo p.d))) (by kernel_rfl) (by kernel_rfl) (HKS.out _ (Below.drew (Below.refl _ _))) (fun hHeld => ?_)
      simp only [List.pop_toArray, List.dropLast_cons_cons, List.dropLast_singleton]
      refine wpAnyH_take (i := 0) (oi := _) (v := ?_) rfl (by kernel_rfl) (by kernel_rfl) (by kernel_rfl) (fun _ _ _ h => h) (Or.inl ⟨by rfl, ?_⟩) hHeld ?_
      rotate_left
      · (intro w1 hSw; (try dsimp only at hSw); go_simp; all_goals with_reducible rfl)
      (try go_frame)
      refine wpAnyH_take (i := 2) (oi := _) (v := ?_) rfl (by kernel_rfl) (by kernel_rfl) (by kernel_rfl) (fun _ _ _ h => h) (Or.inl ⟨by rfl, ?_⟩) hHeld ?_
      rotate_left
      · (intro w1 hSw; (try dsimp only at hSw); go_simp; all_goals with_reducible rfl)
      (try go_frame)
      refine wpAnyH_take (i := 3) (oi := _) (v := ?_) rfl (by kernel_rfl) (by kernel_rfl) (by kernel_rfl) (fun _ _ _ h => h) (Or.inl ⟨by rfl, ?_⟩) hHeld ?_
      rotate_left
      · (intro w1 hSw; (try dsimp only at hSw); go_simp; all_goals with_reducible rfl)
      (try go_frame)
      refine wpAnyH_take (i := 4) (oi := _) (v := ?_) rfl (by kernel_rfl) (by kernel_rfl) (by kernel_rfl) (fun _ _ _ h => h) (Or.inl ⟨by rfl, ?_⟩) hHeld ?_
      rotate_left
      · (intro w1 hSw; (try dsimp only at hSw); go_simp; all_goals with_reducible rfl)
      (try go_frame)
      refine wpAnyH_take (i := 5) (oi := _) (v := ?_) rfl (by kernel_rfl) (by kernel_rfl) (by kernel_rfl) (fun _ _ _ h => h) (Or.inl ⟨by rfl, ?_⟩) hHeld ?_
      rotate_left
      · (intro w1 hSw; (try dsimp only at hSw); go_simp; all_goals with_reducible rfl)
      (try go_frame)
      refine wpAnyH_take (i := 6) (oi := _) (v := ?_) rfl (by kernel_rfl) (by kernel_rfl) (by kernel_rfl) (fun _ _ _ h => h) (Or.inl ⟨by rfl, ?_⟩) hHeld ?_
      rotate_left
      · (intro w1 hSw; (try dsimp only at hSw); go_simp; all_goals with_reducible rfl)
      (try go_frame)
      refine wpAnyH_take (i := 7) (oi := _) (v := ?_) rfl (by kernel_rfl) (by kernel_rfl) (by kernel_rfl) (fun _ _ _ h => h) (Or.inl ⟨by rfl, ?_⟩) hHeld ?_
      rotate_left
      · (intro w1 hSw; (try dsimp only at hSw); go_simp; all_goals with_reducible rfl)
      (try go_frame)
      refine wpAnyH_take (i := 9) (oi := _) (v := ?_) rfl (by kernel_rfl) (by kernel_rfl) (by kernel_rfl) (fun _ _ _ h => h) (Or.inl ⟨by rfl, ?_⟩) hHeld ?_
      rotate_left
      · (intro w1 hSw; (try dsimp only at hSw); go_simp; all_goals with_reducible rfl)
      (try go_frame)
      refine wpAnyH_take (i := 10) (oi := _) (v := ?_) rfl (by kernel_rfl) (by kernel_rfl) (by kernel_rfl) (fun _ _ _ h => h) (Or.inl ⟨by rfl, ?_⟩) hHeld ?_
      rotate_left
      · (intro w1 hSw; (try dsimp only at hSw); go_simp; all_goals with_reducible rfl)
      (try go_frame)
      refine wpAnyH_take (i := 11) (oi := _) (v := ?_) rfl (by kernel_rfl) (by kernel_rfl) (by kernel_rfl) (fun _ _ _ h => h) (Or.inl ⟨by rfl, ?_⟩) hHeld ?_
      rotate_left
      · (intro w1 hSw; (try dsimp only at hSw); go_simp; all_goals with_reducible rfl)
      (try go_frame)
      refine wpAnyH_take (i := 14) (oi := _) (v := ?_) rfl (by kernel_rfl) (by kernel_rfl) (by kernel_rfl) (fun _ _ _ h => h) (Or.inl ⟨by rfl, ?_⟩) hHeld ?_
      rotate_left
      · (intro w1 hSw; (try dsimp only at hSw); go_simp; all_goals with_reducible rfl)
      (try go_frame)
      refine wpAnyH_take (i := 15) (oi := _) (v := ?_) rfl (by kernel_rfl) (by kernel_rfl) (by kernel_rfl) (fun _ _ _ h => h) (Or.inl ⟨by rfl, ?_⟩) hHeld ?_
      rotate_left
      · (intro w1 hSw; (try dsimp only at hSw); go_simp; all_goals with_reducible rfl)
      (try go_frame)
      refine wpAnyH_take (i := 16) (oi := _) (v := ?_) rfl (by kernel_rfl) (by kernel_rfl) (by kernel_rfl) (fun _ _ _ h => h) (Or.inl ⟨by rfl, ?_⟩) hHeld ?_
      rotate_left
      · (intro w1 hSw; (try dsimp only at hSw); go_simp; all_goals with_reducible rfl)
      (try go_frame)
      refine wpAnyH_take (i := 17) (oi := _) (v := ?_) rfl (by kernel_rfl) (by kernel_rfl) (by kernel_rfl) (fun _ _ _ h => h) (Or.inl ⟨by rfl, ?_⟩) hHeld ?_
      rotate_left
      · (intro w1 hSw; (try dsimp only at hSw); go_simp; all_goals with_reducible rfl)
      (try go_frame)
      refine wpAnyH_take (i := 18) (oi := _) (v := ?_) rfl (by kernel_rfl) (by kernel_rfl) (by kernel_rfl) (fun _ _ _ h => h) (Or.inl ⟨by rfl, ?_⟩) hHeld ?_
      rotate_left
      · (intro w1 hSw; (try dsimp only at hSw); go_simp; all_goals with_reducible rfl)
      (try go_frame)
      refine wpAnyH_take (i := 19) (oi := _) (v := ?_) rfl (by kernel_rfl) (by kernel_rfl) (by kernel_rfl) (fun _ _ _ h => h) (Or.inl ⟨by rfl, ?_⟩) hHeld ?_
      rotate_left
      · (intro w1 hSw; (try dsimp only at hSw); go_simp; all_goals with_reducible rfl)
      (try go_frame)
      refine wpAnyH_ready (rs := [1, 12]) (by kernel_rfl) (by simp) ?_
      refine AllReadyH.cons (o := _) rfl (fun K hK => ?_) (AllReadyH.cons (o := _) rfl (fun K hK => ?_) AllReadyH.nil)
      · go_simp
        refine hK.out _ _ ?_ (fun hHeld2 => ?_)
        · exact HKS.out _ (below_allocQ (And.left hHeld) _)
        clear hK K hHeld
        have hHeld := hHeld2
        clear hHeld2
        (try go_frame)
        refine wpAnyH_ready (rs := [8, 12]) (by kernel_rfl) (by simp) ?_
        refine AllReadyH.cons (o := _) rfl (fun K hK => ?_) (AllReadyH.cons (o := _) rfl (fun K hK => ?_) AllReadyH.nil)
        · refine step_appQ rfl (.tmp 17) (.tmp 23) 69 (by rfl) w1.heap.size 144 i0 _ 9 72 Try.underlying69 HI0.out HZ0.out HY1.out HY2.out rfl (by decide) (.slice (some ⟨w1.heap.size, 0, none⟩) 0 0) 0 _ (by rfl) (own0 w1 _ (Nat.le_refl _)) (some ⟨g, 0, none⟩) i cap (rowP f (pts.take i)) (by rfl) HLT.out (src_take (HRD.out.row.below (bA w1 _)) (.inr ⟨g, rfl⟩) HRD.out.len HRD.out.room i hple) (rowP_one f _) (by unfold maxLen; omega) (by omega) (bA w1 _).size ?_
          intro v24 w24 hOw24 hgw24 hnw24
          have K24 : Hid (Below w1.heap.size w1 w24) := Lib.hid (below_app (bA w1 _) hgw24 (fun g' hg' => by simp [Value.ownBlock] at hg'; omega))
          have R24 : Hid (∀ g', v24.ownBlock = some g' → w1.heap.size ≤ g') := Lib.hid (fun g' e => (World.ownsRow.lt hOw24 g' e).1)
          refine hK.out _ _ ?_ (fun hHeld2 => ?_)
          · exact HKS.out _ K24.out
          clear hK K hHeld
          have hHeld := hHeld2
          clear hHeld2
          (try go_frame)
          refine wpAnyH_ready (rs := [12]) (by kernel_rfl) (by simp) ?_
          refine AllReadyH.cons (o := _) rfl (fun K hK => ?_) AllReadyH.nil
          go_simp
          refine hK.out _ _ ?_ (fun hHeld2 => ?_)
          · exact HKS.out _ (below_allocQ (And.left hHeld) _)
          clear hK K hHeld
          have hHeld := hHeld2
          clear hHeld2
          (try go_frame)
          refine wpAnyH_ready (rs := [13]) (by kernel_rfl) (by simp) ?_
          refine AllReadyH.cons (o := _) rfl (fun K hK => ?_) AllReadyH.nil
          refine step_appQ rfl (.tmp 24) (.tmp 28) 69 (by rfl) w1.heap.size 144 i0 _ 9 72 Try.underlying69 HI0.out HZ0.out HY1.out HY2.out rfl (by decide) v24 (0 + i) _ (by rfl) (World.ownsRow.alloc hOw24 _) (some ⟨w24.heap.size, 0, none⟩) 1 1 (p.cells ++ [Value.int .i64 id]) (by rfl) rfl (.inr ⟨_, rfl, World.news_of_block (heap_alloc_new w24 _)⟩) HO1.out (by unfold maxLen; omega) (by omega) (K24.out.alloc K24.out.size _).size ?_
          intro v29 w29 hOw29 hgw29 hnw29
          have K29 : Hid (Below w1.heap.size w1 w29) := Lib.hid (below_app (K24.out.alloc K24.out.size _) hgw29 R24.out)
          have R29 : Hid (∀ g', v29.ownBlock = some g' → w1.heap.size ≤ g') := Lib.hid (fun g' e => (World.ownsRow.lt hOw29 g' e).1)
          refine hK.out _ _ ?_ (fun hHeld2 => ?_)
          · exact HKS.out _ K29.out
          clear hK K hHeld
          have hHeld := hHeld2
          clear hHeld2
          (try go_frame)
          refine wpAnyH_ready (rs := [20]) (by kernel_rfl) (by simp) ?_
          refine AllReadyH.cons (o := _) rfl (fun K hK => ?_) AllReadyH.nil
          refine step_appQ rfl (.tmp 29) (.tmp 35) 69 (by rfl) w1.heap.size 144 i0 _ 9 72 Try.underlying69 HI0.out HZ0.out HY1.out HY2.out rfl (by decide) v29 (0 + i + 1) _ (by rfl) (hOw29) _ (n - i) (cap - i) (rowP f (pts.drop i)) (by rfl) HLD.out (src_dropI (HRD.out.row.below K29.out) HRD.out.len HRD.out.room i) (rowP_one f _) (by unfold maxLen; omega) (by omega) K29.out.size ?_
          intro v36 w36 hOw36 hgw36 hnw36
          obtain ⟨A36, c36, rfl⟩ := own_shapeQ hOw36
          have K36 : Hid (Below w1.heap.size w1 w36) := Lib.hid (below_app K29.out hgw36 R29.out)
          have O36 := Lib.hid hOw36
          refine hK.out _ _ ?_ (fun hHeld2 => ?_)
          · exact HKS.out _ K36.out
          clear hK K hHeld
          have hHeld := hHeld2
          clear hHeld2
          (try go_frame)
          refine wpAnyH_take (i := 21) (oi := _) (v := ?_) rfl (by kernel_rfl) (by kernel_rfl) (by kernel_rfl) (fun _ _ _ h => h) (Or.inl ⟨by rfl, ?_⟩) hHeld ?_
          rotate_left
          · (intro w1 hSw; (try dsimp only at hSw); go_simp; all_goals with_reducible rfl)
          (try go_frame)
          refine wpAnyH_take (i := 22) (oi := _) (v := ?_) rfl (by kernel_rfl) (by kernel_rfl) (by kernel_rfl) (fun _ _ _ h => h) (Or.inl ⟨by rfl, ?_⟩) hHeld ?_
          rotate_left
          · (intro w1 hSw; (try dsimp only at hSw); go_simp; all_goals with_reducible rfl)
          (try go_frame)
          refine wpAnyH_done (by kernel_rfl) ?_ _
          unfold QL
          refine wpOp_step rfl (fun K hK => ?_)
          obtain ⟨-, q1, q2, -⟩ := hHeld
          go_simp
          refine hK _ _ ?_
          clear hK K
          go_wp2_with fail
          all_goals
            go_ret
            obtain ⟨h1, h2⟩ := HEND.out w36 A36 c36 K36.out O36.out
            exact .inr ⟨HP.out, rfl, ⟨A36, c36, h1⟩, h2⟩
        · go_simp
          refine hK.out _ _ ?_ (fun hHeld2 => ?_)
          · exact HKS.out _ (below_allocQ (And.left hHeld) _)
          clear hK K hHeld
          have hHeld := hHeld2
          clear hHeld2
          (try go_frame)
          refine wpAnyH_ready (rs := [8]) (by kernel_rfl) (by simp) ?_
          refine AllReadyH.cons (o := _) rfl (fun K hK => ?_) AllReadyH.nil
          refine step_appQ rfl (.tmp 17) (.tmp 23) 69 (by rfl) w1.heap.size 144 i0 _ 9 72 Try.underlying69 HI0.out HZ0.out HY1.out HY2.out rfl (by decide) (.slice (some ⟨w1.heap.size, 0, none⟩) 0 0) 0 _ (by rfl) (own0a w1 _ _ (Nat.le_refl _)) (some ⟨g, 0, none⟩) i cap (rowP f (pts.take i)) (by rfl) HLT.out (src_take (HRD.out.row.below (bB w1 _ _)) (.inr ⟨g, rfl⟩) HRD.out.len HRD.out.room i hple) (rowP_one f _) (by unfold maxLen; omega) (by omega) (bB w1 _ _).size ?_
          intro v24 w24 hOw24 hgw24 hnw24
          have K24 : Hid (Below w1.heap.size w1 w24) := Lib.hid (below_app (bB w1 _ _) hgw24 (fun g' hg' => by simp [Value.ownBlock] at hg'; omega))
          have R24 : Hid (∀ g', v24.ownBlock = some g' → w1.heap.size ≤ g') := Lib.hid (fun g' e => (World.ownsRow.lt hOw24 g' e).1)
          have Z24 : Hid (w24.heap[w1.heap.size + 1]? = some (.cells #[.int .u64 (hi p.a), .int .u64 (lo p.a), .int .u64 (hi p.b), .int .u64 (lo p.b), .int .u64 (hi p.c), .int .u64 (lo p.c), .int .u64 (hi p.d), .int .u64 (lo p.d), .int .i64 id] 144 (0, 0))) := Lib.hid ((hgw24.block (w1.heap.size + 1) (by simp) (by simp [Value.ownBlock])).trans (blkA w1 _ _))
          refine hK.out _ _ ?_ (fun hHeld2 => ?_)
          · exact HKS.out _ K24.out
          clear hK K hHeld
          have hHeld := hHeld2
          clear hHeld2
          (try go_frame)
          refine wpAnyH_ready (rs := [13]) (by kernel_rfl) (by simp) ?_
          refine AllReadyH.cons (o := _) rfl (fun K hK => ?_) AllReadyH.nil
          refine step_appQ rfl (.tmp 24) (.tmp 28) 69 (by rfl) w1.heap.size 144 i0 _ 9 72 Try.underlying69 HI0.out HZ0.out HY1.out HY2.out rfl (by decide) v24 (0 + i) _ (by rfl) (hOw24) (some ⟨w1.heap.size + 1, 0, none⟩) 1 1 (p.cells ++ [Value.int .i64 id]) (by rfl) rfl (.inr ⟨_, rfl, World.news_of_block (Z24.out)⟩) HO1.out (by unfold maxLen; omega) (by omega) (K24.out).size ?_
          intro v29 w29 hOw29 hgw29 hnw29
          have K29 : Hid (Below w1.heap.size w1 w29) := Lib.hid (below_app (K24.out) hgw29 R24.out)
          have R29 : Hid (∀ g', v29.ownBlock = some g' → w1.heap.size ≤ g') := Lib.hid (fun g' e => (World.ownsRow.lt hOw29 g' e).1)
          refine hK.out _ _ ?_ (fun hHeld2 => ?_)
          · exact HKS.out _ K29.out
          clear hK K hHeld
          have hHeld := hHeld2
          clear hHeld2
          (try go_frame)
          refine wpAnyH_ready (rs := [20]) (by kernel_rfl) (by simp) ?_
          refine AllReadyH.cons (o := _) rfl (fun K hK => ?_) AllReadyH.nil
          refine step_appQ rfl (.tmp 29) (.tmp 35) 69 (by rfl) w1.heap.size 144 i0 _ 9 72 Try.underlying69 HI0.out HZ0.out HY1.out HY2.out rfl (by decide) v29 (0 + i + 1) _ (by rfl) (hOw29) _ (n - i) (cap - i) (rowP f (pts.drop i)) (by rfl) HLD.out (src_dropI (HRD.out.row.below K29.out) HRD.out.len HRD.out.room i) (rowP_one f _) (by unfold maxLen; omega) (by omega) K29.out.size ?_
          intro v36 w36 hOw36 hgw36 hnw36
          obtain ⟨A36, c36, rfl⟩ := own_shapeQ hOw36
          have K36 : Hid (Below w1.heap.size w1 w36) := Lib.hid (below_app K29.out hgw36 R29.out)
          have O36 := Lib.hid hOw36
          refine hK.out _ _ ?_ (fun hHeld2 => ?_)
          · exact HKS.out _ K36.out
          clear hK K hHeld
          have hHeld := hHeld2
          clear hHeld2
          (try go_frame)
          refine wpAnyH_take (i := 21) (oi := _) (v := ?_) rfl (by kernel_rfl) (by kernel_rfl) (by kernel_rfl) (fun _ _ _ h => h) (Or.inl ⟨by rfl, ?_⟩) hHeld ?_
          rotate_left
          · (intro w1 hSw; (try dsimp only at hSw); go_simp; all_goals with_reducible rfl)
          (try go_frame)
          refine wpAnyH_take (i := 22) (oi := _) (v := ?_) rfl (by kernel_rfl) (by kernel_rfl) (by kernel_rfl) (fun _ _ _ h => h) (Or.inl ⟨by rfl, ?_⟩) hHeld ?_
          rotate_left
          · (intro w1 hSw; (try dsimp only at hSw); go_simp; all_goals with_reducible rfl)
          (try go_frame)
          refine wpAnyH_done (by kernel_rfl) ?_ _
          unfold QL
          refine wpOp_step rfl (fun K hK => ?_)
          obtain ⟨-, q1, q2, -⟩ := hHeld
          go_simp
          refine hK _ _ ?_
          clear hK K
          go_wp2_with fail
          all_goals
            go_ret
            obtain ⟨h1, h2⟩ := HEND.out w36 A36 c36 K36.out O36.out
            exact .inr ⟨HP.out, rfl, ⟨A36, c36, h1⟩, h2⟩
      · go_simp
        refine hK.out _ _ ?_ (fun hHeld2 => ?_)
        · exact HKS.out _ (below_allocQ (And.left hHeld) _)
        clear hK K hHeld
        have hHeld := hHeld2
        clear hHeld2
        (try go_frame)
        refine wpAnyH_ready (rs := [1]) (by kernel_rfl) (by simp) ?_
        refine AllReadyH.cons (o := _) rfl (fun K hK => ?_) AllReadyH.nil
        go_simp
        refine hK.out _ _ ?_ (fun hHeld2 => ?_)
        · exact HKS.out _ (below_allocQ (And.left hHeld) _)
        clear hK K hHeld
        have hHeld := hHeld2
        clear hHeld2
        (try go_frame)
        refine wpAnyH_ready (rs := [8]) (by kernel_rfl) (by simp) ?_
        refine AllReadyH.cons (o := _) rfl (fun K hK => ?_) AllReadyH.nil
        refine step_appQ rfl (.tmp 17) (.tmp 23) 69 (by rfl) w1.heap.size 144 i0 _ 9 72 Try.underlying69 HI0.out HZ0.out HY1.out HY2.out rfl (by decide) (.slice (some ⟨w1.heap.size + 1, 0, none⟩) 0 0) 0 _ (by rfl) (own0b w1 _ _ (Nat.le_refl _)) (some ⟨g, 0, none⟩) i cap (rowP f (pts.take i)) (by rfl) HLT.out (src_take (HRD.out.row.below (bB w1 _ _)) (.inr ⟨g, rfl⟩) HRD.out.len HRD.out.room i hple) (rowP_one f _) (by unfold maxLen; omega) (by omega) (bB w1 _ _).size ?_
        intro v24 w24 hOw24 hgw24 hnw24
        have K24 : Hid (Below w1.heap.size w1 w24) := Lib.hid (below_app (bB w1 _ _) hgw24 (fun g' hg' => by simp [Value.ownBlock] at hg'; omega))
        have R24 : Hid (∀ g', v24.ownBlock = some g' → w1.heap.size ≤ g') := Lib.hid (fun g' e => (World.ownsRow.lt hOw24 g' e).1)
        have Z24 : Hid (w24.heap[w1.heap.size]? = some (.cells #[.int .u64 (hi p.a), .int .u64 (lo p.a), .int .u64 (hi p.b), .int .u64 (lo p.b), .int .u64 (hi p.c), .int .u64 (lo p.c), .int .u64 (hi p.d), .int .u64 (lo p.d), .int .i64 id] 144 (0, 0))) := Lib.hid ((hgw24.block w1.heap.size (by simp; omega) (by simp [Value.ownBlock])).trans (blkB w1 _ _))
        refine hK.out _ _ ?_ (fun hHeld2 => ?_)
        · exact HKS.out _ K24.out
        clear hK K hHeld
        have hHeld := hHeld2
        clear hHeld2
        (try go_frame)
        refine wpAnyH_ready (rs := [13]) (by kernel_rfl) (by simp) ?_
        refine AllReadyH.cons (o := _) rfl (fun K hK => ?_) AllReadyH.nil
        refine step_appQ rfl (.tmp 24) (.tmp 28) 69 (by rfl) w1.heap.size 144 i0 _ 9 72 Try.underlying69 HI0.out HZ0.out HY1.out HY2.out rfl (by decide) v24 (0 + i) _ (by rfl) (hOw24) (some ⟨w1.heap.size, 0, none⟩) 1 1 (p.cells ++ [Value.int .i64 id]) (by rfl) rfl (.inr ⟨_, rfl, World.news_of_block (Z24.out)⟩) HO1.out (by unfold maxLen; omega) (by omega) (K24.out).size ?_
        intro v29 w29 hOw29 hgw29 hnw29
        have K29 : Hid (Below w1.heap.size w1 w29) := Lib.hid (below_app (K24.out) hgw29 R24.out)
        have R29 : Hid (∀ g', v29.ownBlock = some g' → w1.heap.size ≤ g') := Lib.hid (fun g' e => (World.ownsRow.lt hOw29 g' e).1)
        refine hK.out _ _ ?_ (fun hHeld2 => ?_)
        · exact HKS.out _ K29.out
        clear hK K hHeld
        have hHeld := hHeld2
        clear hHeld2
        (try go_frame)
        refine wpAnyH_ready (rs := [20]) (by kernel_rfl) (by simp) ?_
        refine AllReadyH.cons (o := _) rfl (fun K hK => ?_) AllReadyH.nil
        refine step_appQ rfl (.tmp 29) (.tmp 35) 69 (by rfl) w1.heap.size 144 i0 _ 9 72 Try.underlying69 HI0.out HZ0.out HY1.out HY2.out rfl (by decide) v29 (0 + i + 1) _ (by rfl) (hOw29) _ (n - i) (cap - i) (rowP f (pts.drop i)) (by rfl) HLD.out (src_dropI (HRD.out.row.below K29.out) HRD.out.len HRD.out.room i) (rowP_one f _) (by unfold maxLen; omega) (by omega) K29.out.size ?_
        intro v36 w36 hOw36 hgw36 hnw36
        obtain ⟨A36, c36, rfl⟩ := own_shapeQ hOw36
        have K36 : Hid (Below w1.heap.size w1 w36) := Lib.hid (below_app K29.out hgw36 R29.out)
        have O36 := Lib.hid hOw36
        refine hK.out _ _ ?_ (fun hHeld2 => ?_)
        · exact HKS.out _ K36.out
        clear hK K hHeld
        have hHeld := hHeld2
        clear hHeld2
        (try go_frame)
        refine wpAnyH_take (i := 21) (oi := _) (v := ?_) rfl (by kernel_rfl) (by kernel_rfl) (by kernel_rfl) (fun _ _ _ h => h) (Or.inl ⟨by rfl, ?_⟩) hHeld ?_
        rotate_left
        · (intro w1 hSw; (try dsimp only at hSw); go_simp; all_goals with_reducible rfl)
        (try go_frame)
        refine wpAnyH_take (i := 22) (oi := _) (v := ?_) rfl (by kernel_rfl) (by kernel_rfl) (by kernel_rfl) (fun _ _ _ h => h) (Or.inl ⟨by rfl, ?_⟩) hHeld ?_
        rotate_left
        · (intro w1 hSw; (try dsimp only at hSw); go_simp; all_goals with_reducible rfl)
        (try go_frame)
        refine wpAnyH_done (by kernel_rfl) ?_ _
        unfold QL
        refine wpOp_step rfl (fun K hK => ?_)
        obtain ⟨-, q1, q2, -⟩ := hHeld
        go_simp
        refine hK _ _ ?_
        clear hK K
        go_wp2_with fail
        all_goals
          go_ret
          obtain ⟨h1, h2⟩ := HEND.out w36 A36 c36 K36.out O36.out
          exact .inr ⟨HP.out, rfl, ⟨A36, c36, h1⟩, h2⟩
end Go.Proofs.Ytjdecoiciecfpaa
