/- Layer 11: the reference's Remove and Get. -/
import Derived.Test.YtjdecoiciecfpaaQRefH
namespace Go.Proofs.Ytjdecoiciecfpaa
open Go.RowKit Go.Maps Go.Sort
theorem plc_at {p : Pt} {pts : List Pt} (ha : Asc pts) (hp : p ∈ pts) : pts[plc p pts]? = some p ∧ plc p pts < pts.length := by
  have h := (plc_mem p pts ha).2 hp
  exact ⟨h, (List.getElem?_eq_some_iff.1 h).1⟩
theorem rowP_rem (f : Pt → Int) (p : Pt) (pts : List Pt) : rowP f (remL p pts) = rowP f (pts.take (plc p pts)) ++ rowP f (pts.drop (plc p pts + 1)) := by
  unfold remL
  exact rowP_app _ _ _
def RetRRem (Y n : Nat) (pts : List Pt) (f : Pt → Int) (p : Pt) (w : World) (e : Ending) (w' : World) : Prop := (p ∉ pts ∧ e = .returned (.bool false) ∧ Below w.heap.size w w') ∨ (p ∈ pts ∧ e = .returned (.bool true) ∧ (∃ A' cap', RI w' Y A' (n - 1) cap' (remL p pts) f) ∧ FrX w w' Y)
set_option maxRecDepth 100000 in
set_option maxHeartbeats 12000000 in
theorem qr_Get {w : World} {Y n cap : Nat} {A : Option Addr} {pts : List Pt} {f : Pt → Int} (h : RI w Y A n cap pts f) (hn : n ≤ 100000) (p : Pt) : Calls Try.prog 36 #[.pointer (some ⟨Y, 0, none⟩), ptV p] w (RetGet pts f p w) := by
  have HR := Lib.hid h
  have HB0 : Hid (Below w.heap.size w (w.alloc (.cells #[.int .u64 (hi p.a), .int .u64 (lo p.a), .int .u64 (hi p.b), .int .u64 (lo p.b), .int .u64 (hi p.c), .int .u64 (lo p.c), .int .u64 (hi p.d), .int .u64 (lo p.d)] 29))) := Lib.hid ((Below.refl _ w).alloc (Nat.le_refl _) _)
  have hpl := qr_place (h.below HB0.out) hn p
  have hple := plc_le p pts
  rw [h.len] at hple
  clear h
  unfold RetPlace at hpl
  by_cases hp : p ∈ pts
  · obtain ⟨hat, hlt⟩ := plc_at HR.out.asc hp
    rw [decide_eq_true hp] at hpl
    obtain ⟨i, hi⟩ : ∃ i, i = plc p pts := ⟨_, rfl⟩
    rw [← hi] at hpl hat hlt
    rw [HR.out.len] at hlt
    have HAT := Lib.hid hat
    have HP := Lib.hid hp
    obtain ⟨g, rfl, -, -⟩ := HR.out.row.resolve_left (fun e => by have := HAT.out; rw [e] at this; simp at this)
    have hroom := HR.out.room
    have i0 : 0 ≤ (i : Int) := by omega
    have i1 : (i : Int) < (n : Int) := by omega
    have i2 : (i : Int) < (cap : Int) := by omega
    have HF : Hid (∀ w1, Below w.heap.size w w1 → w1.cell? ⟨g, i * 9 + 8, none⟩ = some (.int .i64 (f p)) ∧ w1.cell? ⟨Y, 0, none⟩ = some (.slice (some ⟨g, 0, none⟩) n cap)) := Lib.hid fun w1 hb => by
      have H := HR.out.below hb
      obtain ⟨g', e, -, hcell⟩ := H.row.resolve_left (fun e => by have := HAT.out; rw [e] at this; simp at this)
      injection e with e
      injection e with e
      subst e
      exact ⟨hcell i p HAT.out 8 (by omega), H.c⟩
    clear hp hi hat hple
    unfold ptV at hpl ⊢
    go_enter Try.func36, Try.ntmps36
    go_wp2_with ((with_reducible refine hpl.mono ?_); rintro e w1 ⟨rfl, hb1⟩; have HB1 := Lib.hid (HB0.out.trans (hb1.mono HB0.out.size)); obtain ⟨h8, hc⟩ := HF.out w1 HB1.out; clear hb1)
    refine bodyPost_ret (v := .tuple #[.int .i64 (f p), .bool true]) (by simp [results, Try.results36, go_sem]) rfl ?_
    exact ⟨by rw [if_pos HP.out, decide_eq_true HP.out], HB1.out⟩
  · rw [decide_eq_false hp] at hpl
    have HP := Lib.hid hp
    clear hp hple
    unfold ptV at hpl ⊢
    go_enter Try.func36, Try.ntmps36
    go_wp2_with ((with_reducible refine hpl.mono ?_); rintro e w1 ⟨rfl, hb1⟩)
    refine bodyPost_ret (v := .tuple #[.int .i64 0, .bool false]) (by simp [results, Try.results36, go_sem]) rfl ?_
    exact ⟨by rw [if_neg HP.out, decide_eq_false HP.out], HB0.out.trans (hb1.mono HB0.out.size)⟩
set_option maxRecDepth 100000 in
set_option maxHeartbeats 12000000 in
theorem qr_Remove {w : World} {Y n cap : Nat} {A : Option Addr} {pts : List Pt} {f : Pt → Int} (h : RI w Y A n cap pts f) (hn : n ≤ 100000) (p : Pt) : Calls Try.prog 34 #[.pointer (some ⟨Y, 0, none⟩), ptV p] w (RetRRem Y n pts f p w) := by
  have HR := Lib.hid h
  have HB0 : Hid (Below w.heap.size w (w.alloc (.cells #[.int .u64 (hi p.a), .int .u64 (lo p.a), .int .u64 (hi p.b), .int .u64 (lo p.b), .int .u64 (hi p.c), .int .u64 (lo p.c), .int .u64 (hi p.d), .int .u64 (lo p.d)] 29))) := Lib.hid ((Below.refl _ w).alloc (Nat.le_refl _) _)
  have hpl := qr_place (h.below HB0.out) hn p
  have hple := plc_le p pts
  rw [h.len] at hple
  obtain ⟨i0, hi0, hz0, hy1, hy2⟩ := info_partsQ info_rpair
  have HI0 := Lib.hid hi0
  have HZ0 := Lib.hid hz0
  have HY1 := Lib.hid hy1
  have HY2 := Lib.hid hy2
  clear h hi0 hz0 hy1 hy2
  unfold RetPlace at hpl
  by_cases hp : p ∈ pts
  · obtain ⟨hat, hlt⟩ := plc_at HR.out.asc hp
    rw [HR.out.len] at hlt
    rw [decide_eq_true hp] at hpl
    have HP := Lib.hid hp
    clear hp
    obtain ⟨i, hi⟩ : ∃ i, i = plc p pts := ⟨_, rfl⟩
    rw [← hi] at hpl hple hlt hat
    have HIP := Lib.hid hi
    have HAT := Lib.hid hat
    clear hi hat
    unfold ptV at hpl ⊢
    go_enter Try.func34, Try.ntmps34
    go_wp2_with ((with_reducible refine hpl.mono ?_); rintro e w1 ⟨rfl, hb1⟩)
    have HB1 := Lib.hid (HB0.out.trans (hb1.mono HB0.out.size))
    have HRD : Hid (RI w1 Y A n cap pts f) := Lib.hid (HR.out.below HB1.out)
    obtain ⟨g, rfl, hgl, -⟩ := HRD.out.row.resolve_left (fun e => by have := HAT.out; rw [e] at this; simp at this)
    have HKS : Hid (∀ w', Below w1.heap.size w1 w' → Below w1.heap.size w1 w' ∧ w'.cell? ⟨Y, 0, none⟩ = some (.slice (some ⟨g, 0, none⟩) n cap) ∧ w'.frozen? ⟨Y, 0, none⟩ = false) := Lib.hid fun w' hb => ⟨hb, (HRD.out.below hb).c, (HRD.out.below hb).froz⟩
    clear hb1 hpl hgl
    have hcap := HRD.out.room
    have j0 : 0 ≤ (i : Int) := by omega
    have j1 : (i : Int) ≤ (n : Int) := by omega
    have j2 : (i : Int) ≤ (cap : Int) := by omega
    have k0 : 0 ≤ (i : Int) + 1 := by omega
    have k1 : (i : Int) + 1 ≤ (n : Int) := by omega
    have k2 : (i : Int) + 1 ≤ (cap : Int) := by omega
    have hwr : IntKind.i64.wrap ((i : Int) + 1) = (i : Int) + 1 := IntWalk.i64_in _ (by omega)
    have htn : ((i : Int) + 1).toNat = i + 1 := by omega
    have HLT : Hid ((rowP f (pts.take i)).length = i * 9) := Lib.hid (by rw [rowP_len, List.length_take, HR.out.len, Nat.min_eq_left hple])
    have HLD : Hid ((rowP f (pts.drop (i + 1))).length = (n - (i + 1)) * 9) := Lib.hid (by rw [rowP_len, List.length_drop, HR.out.len])
    have HEND : Hid (∀ (w36 : World) (A36 : Option Addr) (c36 : Nat), Below w1.heap.size w1 w36 → w36.ownsRow w1.heap.size 144 9 (.slice A36 (0 + i + (n - (i + 1))) c36) (0 + i + (n - (i + 1))) (([] ++ rowP f (pts.take i)) ++ rowP f (pts.drop (i + 1))) → RI (w36.setCell ⟨Y, 0, none⟩ (.slice A36 (i + (n - (i + 1))) c36)) Y A36 (n - 1) c36 (remL p pts) f ∧ FrX w (w36.setCell ⟨Y, 0, none⟩ (.slice A36 (i + (n - (i + 1))) c36)) Y) := Lib.hid fun w36 A36 c36 hk ho => by
      have e1 : i + (n - (i + 1)) = n - 1 := by omega
      have e2 : 0 + i + (n - (i + 1)) = n - 1 := by omega
      rw [e2] at ho
      rw [e1]
      rw [List.nil_append, HIP.out, ← rowP_rem f p pts] at ho
      have hl := remL_len p pts HRD.out.asc HP.out
      rw [HRD.out.len] at hl
      exact ri_set HB1.out hk HRD.out.lt HRD.out.froz HRD.out.c ho (remL_asc p pts HRD.out.asc) (by omega)
    refine wp_region_lastH (N := 19) (S := fun w' => Below w1.heap.size w1 w' ∧ w'.cell? ⟨Y, 0, none⟩ = some (.slice (some ⟨g, 0, none⟩) n cap) ∧ w'.frozen? ⟨Y, 0, none⟩ = false) (by kernel_rfl) (by kernel_rfl) (HKS.out _ (Below.drew (Below.refl _ _))) (fun hHeld => ?_)
    simp only [List.pop_toArray, List.dropLast_cons_cons, List.dropLast_singleton]
    refine wpAnyH_take (i := 0) (oi := _) (v := ?_) rfl (by kernel_rfl) (by kernel_rfl) (by kernel_rfl) (fun _ _ _ h => h) (Or.inl ⟨by rfl, ?_⟩) hHeld ?_
    rotate_left
    · (intro w1 hSw; (try dsimp only at hSw); go_simp; all_goals with_reducible rfl)
    (try go_frame)
    refine wpAnyH_take (i := 2) (oi := _) (v := ?_) rfl (by kernel_rfl) (by kernel_rfl) (by kernel_rfl) (fun _ _ _ h => h) (Or.inl ⟨by rfl, ?_⟩) hHeld ?_
    rotate_left
    · (intro w1 hSw; (try dsimp only at hSw); go_simp; all_goals with_reducible rfl)
    (try go_frame)
    refine wpAnyH_take (i := 3) (oi := _) (v := ?_) rfl (by kernel_rfl) (by kernel_rfl) (by kernel_rfl) (fun _ _ _ h => h) (Or.inl ⟨by rfl, ?_⟩) hHeld ?_
    rotate_left
    · (intro w1 hSw; (try dsimp only at hSw); go_simp; all_goals with_reducible rfl)
    (try go_frame)
    refine wpAnyH_take (i := 4) (oi := _) (v := ?_) rfl (by kernel_rfl) (by kernel_rfl) (by kernel_rfl) (fun _ _ _ h => h) (Or.inl ⟨by rfl, ?_⟩) hHeld ?_
    rotate_left
    · (intro w1 hSw; (try dsimp only at hSw); go_simp; all_goals with_reducible rfl)
    (try go_frame)
    refine wpAnyH_take (i := 5) (oi := _) (v := ?_) rfl (by kernel_rfl) (by kernel_rfl) (by kernel_rfl) (fun _ _ _ h => h) (Or.inl ⟨by rfl, ?_⟩) hHeld ?_
    rotate_left
    · (intro w1 hSw; (try dsimp only at hSw); go_simp; all_goals with_reducible rfl)
    (try go_frame)
    refine wpAnyH_take (i := 6) (oi := _) (v := ?_) rfl (by kernel_rfl) (by kernel_rfl) (by kernel_rfl) (fun _ _ _ h => h) (Or.inl ⟨by rfl, ?_⟩) hHeld ?_
    rotate_left
    · (intro w1 hSw; (try dsimp only at hSw); go_simp; all_goals with_reducible rfl)
    (try go_frame)
    refine wpAnyH_take (i := 7) (oi := _) (v := ?_) rfl (by kernel_rfl) (by kernel_rfl) (by kernel_rfl) (fun _ _ _ h => h) (Or.inl ⟨by rfl, ?_⟩) hHeld ?_
    rotate_left
    · (intro w1 hSw; (try dsimp only at hSw); go_simp; all_goals with_reducible rfl)
    (try go_frame)
    refine wpAnyH_take (i := 9) (oi := _) (v := ?_) rfl (by kernel_rfl) (by kernel_rfl) (by kernel_rfl) (fun _ _ _ h => h) (Or.inl ⟨by rfl, ?_⟩) hHeld ?_
    rotate_left
    · (intro w1 hSw; (try dsimp only at hSw); go_simp; all_goals with_reducible rfl)
    (try go_frame)
    refine wpAnyH_take (i := 10) (oi := _) (v := ?_) rfl (by kernel_rfl) (by kernel_rfl) (by kernel_rfl) (fun _ _ _ h => h) (Or.inl ⟨by rfl, ?_⟩) hHeld ?_
    rotate_left
    · (intro w1 hSw; (try dsimp only at hSw); go_simp; all_goals with_reducible rfl)
    (try go_frame)
    refine wpAnyH_take (i := 11) (oi := _) (v := ?_) rfl (by kernel_rfl) (by kernel_rfl) (by kernel_rfl) (fun _ _ _ h => h) (Or.inl ⟨by rfl, ?_⟩) hHeld ?_
    rotate_left
    · (intro w1 hSw; (try dsimp only at hSw); go_simp; all_goals with_reducible rfl)
    (try go_frame)
    refine wpAnyH_take (i := 12) (oi := _) (v := ?_) rfl (by kernel_rfl) (by kernel_rfl) (by kernel_rfl) (fun _ _ _ h => h) (Or.inl ⟨by rfl, ?_⟩) hHeld ?_
    rotate_left
    · (intro w1 hSw; (try dsimp only at hSw); go_simp; all_goals with_reducible rfl)
    (try go_frame)
    refine wpAnyH_take (i := 13) (oi := _) (v := ?_) rfl (by kernel_rfl) (by kernel_rfl) (by kernel_rfl) (fun _ _ _ h => h) (Or.inl ⟨by rfl, ?_⟩) hHeld ?_
    rotate_left
    · (intro w1 hSw; (try dsimp only at hSw); go_simp; all_goals with_reducible rfl)
    (try go_frame)
    refine wpAnyH_take (i := 14) (oi := _) (v := ?_) rfl (by kernel_rfl) (by kernel_rfl) (by kernel_rfl) (fun _ _ _ h => h) (Or.inl ⟨by rfl, ?_⟩) hHeld ?_
    rotate_left
    · (intro w1 hSw; (try dsimp only at hSw); go_simp; all_goals with_reducible rfl)
    (try go_frame)
    refine wpAnyH_take (i := 15) (oi := _) (v := ?_) rfl (by kernel_rfl) (by kernel_rfl) (by kernel_rfl) (fun _ _ _ h => h) (Or.inl ⟨by rfl, ?_⟩) hHeld ?_
    rotate_left
    · (intro w1 hSw; (try dsimp only at hSw); go_simp; all_goals with_reducible rfl)
    (try go_frame)
    refine wpAnyH_ready (rs := [1]) (by kernel_rfl) (by simp) ?_
    refine AllReadyH.cons (o := _) rfl (fun K hK => ?_) AllReadyH.nil
    go_simp
    refine hK.out _ _ ?_ (fun hHeld2 => ?_)
    · exact HKS.out _ (below_allocQ (And.left hHeld) _)
    clear hK K hHeld
    have hHeld := hHeld2
    clear hHeld2
    (try go_frame)
    refine wpAnyH_ready (rs := [8]) (by kernel_rfl) (by simp) ?_
    refine AllReadyH.cons (o := _) rfl (fun K hK => ?_) AllReadyH.nil
    refine step_appQ rfl (.tmp 15) (.tmp 21) 69 (by rfl) w1.heap.size 144 i0 _ 9 72 Try.underlying69 HI0.out HZ0.out HY1.out HY2.out rfl (by decide) (.slice (some ⟨w1.heap.size, 0, none⟩) 0 0) 0 _ (by rfl) (own0 w1 _ (Nat.le_refl _)) (some ⟨g, 0, none⟩) i cap (rowP f (pts.take i)) (by rfl) HLT.out (src_take (HRD.out.row.below (bA w1 _)) (.inr ⟨g, rfl⟩) HRD.out.len HRD.out.room i hple) (rowP_one f _) (by unfold maxLen; omega) (by omega) (bA w1 _).size ?_
    intro v24 w24 hOw24 hgw24 hnw24
    have K24 : Hid (Below w1.heap.size w1 w24) := Lib.hid (below_app (bA w1 _) hgw24 (fun g' hg' => by simp [Value.ownBlock] at hg'; omega))
    have R24 : Hid (∀ g', v24.ownBlock = some g' → w1.heap.size ≤ g') := Lib.hid (fun g' e => (World.ownsRow.lt hOw24 g' e).1)
    refine hK.out _ _ ?_ (fun hHeld2 => ?_)
    · exact HKS.out _ K24.out
    clear hK K hHeld
    have hHeld := hHeld2
    clear hHeld2
    (try go_frame)
    refine wpAnyH_ready (rs := [16]) (by kernel_rfl) (by simp) ?_
    refine AllReadyH.cons (o := _) rfl (fun K hK => ?_) AllReadyH.nil
    refine step_appQ rfl (.tmp 22) (.tmp 29) 69 (by rfl) w1.heap.size 144 i0 _ 9 72 Try.underlying69 HI0.out HZ0.out HY1.out HY2.out rfl (by decide) v24 (0 + i) _ (by rfl) (hOw24) _ (n - (i + 1)) (cap - (i + 1)) (rowP f (pts.drop (i + 1))) (by rfl) HLD.out (src_dropI (HRD.out.row.below K24.out) HRD.out.len HRD.out.room (i + 1)) (rowP_one f _) (by unfold maxLen; omega) (by omega) K24.out.size ?_
    intro v36 w36 hOw36 hgw36 hnw36
    obtain ⟨A36, c36, rfl⟩ := own_shapeQ hOw36
    have K36 : Hid (Below w1.heap.size w1 w36) := Lib.hid (below_app K24.out hgw36 R24.out)
    have O36 := Lib.hid hOw36
    refine hK.out _ _ ?_ (fun hHeld2 => ?_)
    · exact HKS.out _ K36.out
    clear hK K hHeld
    have hHeld := hHeld2
    clear hHeld2
    (try go_frame)
    refine wpAnyH_take (i := 17) (oi := _) (v := ?_) rfl (by kernel_rfl) (by kernel_rfl) (by kernel_rfl) (fun _ _ _ h => h) (Or.inl ⟨by rfl, ?_⟩) hHeld ?_
    rotate_left
    · (intro w1 hSw; (try dsimp only at hSw); go_simp; all_goals with_reducible rfl)
    (try go_frame)
    refine wpAnyH_take (i := 18) (oi := _) (v := ?_) rfl (by kernel_rfl) (by kernel_rfl) (by kernel_rfl) (fun _ _ _ h => h) (Or.inl ⟨by rfl, ?_⟩) hHeld ?_
    rotate_left
    · (intro w1 hSw; (try dsimp only at hSw); go_simp; all_goals with_reducible rfl)
    (try go_frame)
    refine wpAnyH_done (by kernel_rfl) ?_ _
    unfold QL
    refine wpOp_step rfl (fun K hK => ?_)
    obtain ⟨-, q1, q2⟩ := hHeld
    go_simp
    refine hK _ _ ?_
    clear hK K
    go_wp2_with fail
    all_goals
      go_ret
      obtain ⟨h1, h2⟩ := HEND.out w36 A36 c36 K36.out O36.out
      exact .inr ⟨HP.out, rfl, ⟨A36, c36, h1⟩, h2⟩
  · rw [decide_eq_false hp] at hpl
    have HP := Lib.hid hp
    clear hp
    unfold ptV at hpl ⊢
    go_enter Try.func34, Try.ntmps34
    go_wp2_with ((with_reducible refine hpl.mono ?_); rintro e w1 ⟨rfl, hb1⟩)
    go_ret
    exact .inl ⟨HP.out, rfl, HB0.out.trans (hb1.mono HB0.out.size)⟩
end Go.Proofs.Ytjdecoiciecfpaa
