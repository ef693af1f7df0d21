/- Layer 12: the reference's Remove and Get. -/
import Derived.Test.YtmlocfojmncghaaURPutH
import Derived.Test.YtmlocfojmncghaaURel
namespace Go.Proofs.Ytmlocfojmncghaa
open Go.RowKit
set_option maxRecDepth 100000 in
set_option maxHeartbeats 8000000 in
theorem re_Get {w : World} {Y bits n0 cap : Nat} {A : Option Addr} {L : List PE} (h : RE w Y bits A n0 cap L) (hn : n0 ≤ 100000) (v : Nat) (hv : v < 2 ^ 128) (n : Int) : Calls Try.prog 26 #[.pointer (some ⟨Y, 0, none⟩), .agg #[.int .u64 (hi v), .int .u64 (lo v)], .int .i64 n] w (RetX (.tuple #[.int .i64 (getLE v n L).1, .bool (getLE v n L).2]) w) := by
  have HR := Lib.hid h
  have HB0 : Hid (Below w.heap.size w (w.alloc (.cells #[.int .u64 (hi v), .int .u64 (lo v)] 29))) := Lib.hid ((Below.refl _ w).alloc (Nat.le_refl _) _)
  have hpl := re_place (h.below HB0.out) hn v hv n
  have hple := plcE_le v n L
  rw [h.len] at hple
  clear h
  unfold RetPlcE at hpl
  cases hh : hereE v n L with
  | true =>
    obtain ⟨e, hat, hev, hen, hlt⟩ := here_lt HR.out.asc hh
    have hget : getLE v n L = (e.id, true) := by
      unfold getLE
      rw [hat]
      exact if_pos ((isE_iff _ _ _).2 ⟨hev, hen⟩)
    rw [hget]
    rw [hh] at hpl
    obtain ⟨i, hi⟩ : ∃ i, i = plcE v n L := ⟨_, rfl⟩
    rw [← hi] at hpl hat hlt
    rw [HR.out.len] at hlt
    have HAT := Lib.hid hat
    obtain ⟨g, rfl, -, -⟩ := HR.out.row.resolve_left (fun e => by have := HAT.out; rw [e] at this; simp at this)
    have hroom := HR.out.room
    have i0 : 0 ≤ (i : Int) := by omega
    have i1 : (i : Int) < (n0 : Int) := by omega
    have i2 : (i : Int) < (cap : Int) := by omega
    have HF : Hid (∀ w1, Below w.heap.size w w1 → w1.cell? ⟨g, i * 4 + 3, none⟩ = some (.int .i64 e.id) ∧ w1.cell? ⟨Y, 1, none⟩ = some (.slice (some ⟨g, 0, none⟩) n0 cap)) := Lib.hid fun w1 hb => by
      have H := HR.out.below hb
      obtain ⟨g', e1, -, hcell⟩ := H.row.resolve_left (fun e => by have := HAT.out; rw [e] at this; simp at this)
      injection e1 with e1
      injection e1 with e1
      subst e1
      exact ⟨hcell i e HAT.out 3 (by omega), H.c⟩
    clear hh hi hat hple hget hev hen
    go_enter Try.func26, Try.ntmps26
    go_wp2_with ((with_reducible refine hpl.mono ?_); rintro e w1 ⟨rfl, hb1⟩; have HB1 := Lib.hid (HB0.out.trans (hb1.mono HB0.out.size)); obtain ⟨h8, hc⟩ := HF.out w1 HB1.out; clear hb1)
    refine bodyPost_ret (v := .tuple #[.int .i64 e.id, .bool true]) (by simp [results, Try.results26, go_sem]) rfl ?_
    exact ⟨rfl, HB1.out⟩
  | false =>
    have hget : getLE v n L = (0, false) := by
      unfold getLE
      cases hx : L[plcE v n L]? with
      | none => rfl
      | some x => exact if_neg (by rw [← here_at HR.out.asc hx, hh]; simp)
    rw [hget]
    rw [hh] at hpl
    generalize plcE v n L = i at hpl
    clear hh hple hget
    go_enter Try.func26, Try.ntmps26
    go_wp2_with ((with_reducible refine hpl.mono ?_); rintro e w1 ⟨rfl, hb1⟩)
    refine bodyPost_ret (v := .tuple #[.int .i64 0, .bool false]) (by simp [results, Try.results26, go_sem]) rfl ?_
    exact ⟨rfl, HB0.out.trans (hb1.mono HB0.out.size)⟩
set_option maxRecDepth 100000 in
set_option maxHeartbeats 8000000 in
theorem re_Remove {w : World} {Y bits n0 cap : Nat} {A : Option Addr} {L : List PE} (h : RE w Y bits A n0 cap L) (hn : n0 ≤ 100000) (v : Nat) (hv : v < 2 ^ 128) (n : Int) : Calls Try.prog 24 #[.pointer (some ⟨Y, 0, none⟩), .agg #[.int .u64 (hi v), .int .u64 (lo v)], .int .i64 n] w fun e w' => e = .returned (.bool (hereE v n L)) ∧ LeftE Y bits (remLE v n L).length A L (remLE v n L) w w' := by
  have HR := Lib.hid h
  have HB0 : Hid (Below w.heap.size w (w.alloc (.cells #[.int .u64 (hi v), .int .u64 (lo v)] 29))) := Lib.hid ((Below.refl _ w).alloc (Nat.le_refl _) _)
  have hpl := re_place (h.below HB0.out) hn v hv n
  have hple := plcE_le v n L
  rw [h.len] at hple
  obtain ⟨i0, hi0, hz0, hy1, hy2⟩ := info_partsU info_rpre
  have HI0 := Lib.hid hi0
  have HZ0 := Lib.hid hz0
  have HY1 := Lib.hid hy1
  have HY2 := Lib.hid hy2
  clear hi0 hz0 hy1 hy2
  unfold RetPlcE at hpl
  cases hh : hereE v n L with
  | true =>
    obtain ⟨e, hat, hev, hen, hlt⟩ := here_lt h.asc hh
    have hk : n = (e.n : Int) := hen.symm
    subst hk
    have hrl : remLE v (e.n : Int) L = remE v e.n L := by unfold remLE; rw [if_pos hh, Int.toNat_natCast]
    have hln := remE_len h.asc hh
    rw [h.len] at hln
    rw [hrl, hln]
    have HOK : Hid (∀ x ∈ remE v e.n L, x.v < 2 ^ 128 ∧ x.n ≤ 128) := Lib.hid fun x hx => HR.out.ok x ((remE_mem HR.out.asc hh x).1 hx).1
    have HASC : Hid (AscE (remE v e.n L)) := Lib.hid (remE_asc h.asc)
    have HLN := Lib.hid hln
    generalize e.n = en at *
    rw [h.len] at hlt
    rw [hh] at hpl
    obtain ⟨i, hi⟩ : ∃ i, i = plcE v (en : Int) L := ⟨_, rfl⟩
    rw [← hi] at hpl hple hlt hat
    have HIP := Lib.hid hi
    have HAT := Lib.hid hat
    clear hi hat hh hrl hln h hev hen
    go_enter Try.func24, Try.ntmps24
    go_wp2_with ((with_reducible refine hpl.mono ?_); rintro e w1 ⟨rfl, hb1⟩)
    have HB1 := Lib.hid (HB0.out.trans (hb1.mono HB0.out.size))
    have HRD : Hid (RE w1 Y bits A n0 cap L) := Lib.hid (HR.out.below HB1.out)
    obtain ⟨g, rfl, hgl, -⟩ := HRD.out.row.resolve_left (fun e => by have := HAT.out; rw [e] at this; simp at this)
    have HKS : Hid (∀ w', Below w1.heap.size w1 w' → Below w1.heap.size w1 w' ∧ w'.cell? ⟨Y, 1, none⟩ = some (.slice (some ⟨g, 0, none⟩) n0 cap) ∧ w'.frozen? ⟨Y, 1, none⟩ = false) := Lib.hid fun w' hb => ⟨hb, (HRD.out.below hb).c, (HRD.out.below hb).froz⟩
    clear hb1 hpl hgl
    have hcap := HRD.out.room
    have j0 : 0 ≤ (i : Int) := by omega
    have j1 : (i : Int) ≤ (n0 : Int) := by omega
    have j2 : (i : Int) ≤ (cap : Int) := by omega
    have k0 : 0 ≤ (i : Int) + 1 := by omega
    have k1 : (i : Int) + 1 ≤ (n0 : Int) := by omega
    have k2 : (i : Int) + 1 ≤ (cap : Int) := by omega
    have hwr : IntKind.i64.wrap ((i : Int) + 1) = (i : Int) + 1 := IntWalk.i64_in _ (by omega)
    have htn : ((i : Int) + 1).toNat = i + 1 := by omega
    have HLT : Hid ((rowE (L.take i)).length = i * 4) := Lib.hid (by rw [rowE_len, List.length_take, HR.out.len, Nat.min_eq_left hple])
    have HLD : Hid ((rowE (L.drop (i + 1))).length = (n0 - (i + 1)) * 4) := Lib.hid (by rw [rowE_len, List.length_drop, HR.out.len])
    have HEND : Hid (∀ (w36 : World) (A36 : Option Addr) (c36 : Nat), Below w1.heap.size w1 w36 → w36.ownsRow w1.heap.size 76 4 (.slice A36 (0 + i + (n0 - (i + 1))) c36) (0 + i + (n0 - (i + 1))) (([] ++ rowE (L.take i)) ++ rowE (L.drop (i + 1))) → RE (w36.setCell ⟨Y, 1, none⟩ (.slice A36 (i + (n0 - (i + 1))) c36)) Y bits A36 (n0 - 1) c36 (remE v en L) ∧ FrU (fun j => j = Y) w (w36.setCell ⟨Y, 1, none⟩ (.slice A36 (i + (n0 - (i + 1))) c36)) ∧ ∀ g, A36 = some ⟨g, 0, none⟩ → w.heap.size ≤ g) := Lib.hid fun w36 A36 c36 hk ho => by
      have e1 : i + (n0 - (i + 1)) = n0 - 1 := by omega
      have e2 : 0 + i + (n0 - (i + 1)) = n0 - 1 := by omega
      rw [e2] at ho
      rw [e1]
      rw [List.nil_append, HIP.out, ← rowE_rem v en L] at ho
      exact re_set HB1.out hk HRD.out.lt HRD.out.froz HRD.out.b HRD.out.c ho HASC.out HOK.out HLN.out
    refine wp_region_lastH (N := 19) (S := fun w' => Below w1.heap.size w1 w' ∧ w'.cell? ⟨Y, 1, none⟩ = some (.slice (some ⟨g, 0, none⟩) n0 cap) ∧ w'.frozen? ⟨Y, 1, none⟩ = false) (by kernel_rfl) (by kernel_rfl) (HKS.out _ (Below.drew (Below.refl _ _))) (fun hHeld => ?_)
    simp only [List.pop_toArray, List.dropLast_cons_cons, List.dropLast_singleton]
    refine wpAnyH_take (i := 0) (oi := _) (v := ?_) rfl (by kernel_rfl) (by kernel_rfl) (by kernel_rfl) (fun _ _ _ h => h) (Or.inl ⟨by rfl, ?_⟩) hHeld ?_
    rotate_left
    · (intro w1 hSw; (try dsimp only at hSw); go_simp; all_goals with_reducible rfl)
    (try go_frame)
    refine wpAnyH_take (i := 2) (oi := _) (v := ?_) rfl (by kernel_rfl) (by kernel_rfl) (by kernel_rfl) (fun _ _ _ h => h) (Or.inl ⟨by rfl, ?_⟩) hHeld ?_
    rotate_left
    · (intro w1 hSw; (try dsimp only at hSw); go_simp; all_goals with_reducible rfl)
    (try go_frame)
    refine wpAnyH_take (i := 3) (oi := _) (v := ?_) rfl (by kernel_rfl) (by kernel_rfl) (by kernel_rfl) (fun _ _ _ h => h) (Or.inl ⟨by rfl, ?_⟩) hHeld ?_
    rotate_left
    · (intro w1 hSw; (try dsimp only at hSw); go_simp; all_goals with_reducible rfl)
    (try go_frame)
    refine wpAnyH_take (i := 4) (oi := _) (v := ?_) rfl (by kernel_rfl) (by kernel_rfl) (by kernel_rfl) (fun _ _ _ h => h) (Or.inl ⟨by rfl, ?_⟩) hHeld ?_
    rotate_left
    · (intro w1 hSw; (try dsimp only at hSw); go_simp; all_goals with_reducible rfl)
    (try go_frame)
    refine wpAnyH_take (i := 5) (oi := _) (v := ?_) rfl (by kernel_rfl) (by kernel_rfl) (by kernel_rfl) (fun _ _ _ h => h) (Or.inl ⟨by rfl, ?_⟩) hHeld ?_
    rotate_left
    · (intro w1 hSw; (try dsimp only at hSw); go_simp; all_goals with_reducible rfl)
    (try go_frame)
    refine wpAnyH_take (i := 6) (oi := _) (v := ?_) rfl (by kernel_rfl) (by kernel_rfl) (by kernel_rfl) (fun _ _ _ h => h) (Or.inl ⟨by rfl, ?_⟩) hHeld ?_
    rotate_left
    · (intro w1 hSw; (try dsimp only at hSw); go_simp; all_goals with_reducible rfl)
    (try go_frame)
    refine wpAnyH_take (i := 7) (oi := _) (v := ?_) rfl (by kernel_rfl) (by kernel_rfl) (by kernel_rfl) (fun _ _ _ h => h) (Or.inl ⟨by rfl, ?_⟩) hHeld ?_
    rotate_left
    · (intro w1 hSw; (try dsimp only at hSw); go_simp; all_goals with_reducible rfl)
    (try go_frame)
    refine wpAnyH_take (i := 9) (oi := _) (v := ?_) rfl (by kernel_rfl) (by kernel_rfl) (by kernel_rfl) (fun _ _ _ h => h) (Or.inl ⟨by rfl, ?_⟩) hHeld ?_
    rotate_left
    · (intro w1 hSw; (try dsimp only at hSw); go_simp; all_goals with_reducible rfl)
    (try go_frame)
    refine wpAnyH_take (i := 10) (oi := _) (v := ?_) rfl (by kernel_rfl) (by kernel_rfl) (by kernel_rfl) (fun _ _ _ h => h) (Or.inl ⟨by rfl, ?_⟩) hHeld ?_
    rotate_left
    · (intro w1 hSw; (try dsimp only at hSw); go_simp; all_goals with_reducible rfl)
    (try go_frame)
    refine wpAnyH_take (i := 11) (oi := _) (v := ?_) rfl (by kernel_rfl) (by kernel_rfl) (by kernel_rfl) (fun _ _ _ h => h) (Or.inl ⟨by rfl, ?_⟩) hHeld ?_
    rotate_left
    · (intro w1 hSw; (try dsimp only at hSw); go_simp; all_goals with_reducible rfl)
    (try go_frame)
    refine wpAnyH_take (i := 12) (oi := _) (v := ?_) rfl (by kernel_rfl) (by kernel_rfl) (by kernel_rfl) (fun _ _ _ h => h) (Or.inl ⟨by rfl, ?_⟩) hHeld ?_
    rotate_left
    · (intro w1 hSw; (try dsimp only at hSw); go_simp; all_goals with_reducible rfl)
    (try go_frame)
    refine wpAnyH_take (i := 13) (oi := _) (v := ?_) rfl (by kernel_rfl) (by kernel_rfl) (by kernel_rfl) (fun _ _ _ h => h) (Or.inl ⟨by rfl, ?_⟩) hHeld ?_
    rotate_left
    · (intro w1 hSw; (try dsimp only at hSw); go_simp; all_goals with_reducible rfl)
    (try go_frame)
    refine wpAnyH_take (i := 14) (oi := _) (v := ?_) rfl (by kernel_rfl) (by kernel_rfl) (by kernel_rfl) (fun _ _ _ h => h) (Or.inl ⟨by rfl, ?_⟩) hHeld ?_
    rotate_left
    · (intro w1 hSw; (try dsimp only at hSw); go_simp; all_goals with_reducible rfl)
    (try go_frame)
    refine wpAnyH_take (i := 15) (oi := _) (v := ?_) rfl (by kernel_rfl) (by kernel_rfl) (by kernel_rfl) (fun _ _ _ h => h) (Or.inl ⟨by rfl, ?_⟩) hHeld ?_
    rotate_left
    · (intro w1 hSw; (try dsimp only at hSw); go_simp; all_goals with_reducible rfl)
    (try go_frame)
    refine wpAnyH_ready (rs := [1]) (by kernel_rfl) (by simp) ?_
    refine AllReadyH.cons (o := _) rfl (fun K hK => ?_) AllReadyH.nil
    go_simp
    refine hK.out _ _ ?_ (fun hHeld2 => ?_)
    · exact HKS.out _ (below_allocE (And.left hHeld) _)
    clear hK K hHeld
    have hHeld := hHeld2
    clear hHeld2
    (try go_frame)
    refine wpAnyH_ready (rs := [8]) (by kernel_rfl) (by simp) ?_
    refine AllReadyH.cons (o := _) rfl (fun K hK => ?_) AllReadyH.nil
    refine step_appQ rfl (.tmp 18) (.tmp 24) 62 (by rfl) w1.heap.size 76 i0 _ 4 32 Try.underlying62 HI0.out HZ0.out HY1.out HY2.out rfl (by decide) (.slice (some ⟨w1.heap.size, 0, none⟩) 0 0) 0 _ (by rfl) (own0E w1 _ (Nat.le_refl _)) (some ⟨g, 0, none⟩) i cap (rowE (L.take i)) (by rfl) HLT.out (src_takeE (HRD.out.row.below (bAE w1 _)) (.inr ⟨g, rfl⟩) HRD.out.len HRD.out.room i hple) (rowE_one _) (by unfold maxLen; omega) (by omega) (bAE w1 _).size ?_
    intro v24 w24 hOw24 hgw24 hnw24
    have K24 : Hid (Below w1.heap.size w1 w24) := Lib.hid (below_appE (bAE w1 _) hgw24 (fun g' hg' => by simp [Value.ownBlock] at hg'; omega))
    have R24 : Hid (∀ g', v24.ownBlock = some g' → w1.heap.size ≤ g') := Lib.hid (fun g' e => (World.ownsRow.lt hOw24 g' e).1)
    refine hK.out _ _ ?_ (fun hHeld2 => ?_)
    · exact HKS.out _ K24.out
    clear hK K hHeld
    have hHeld := hHeld2
    clear hHeld2
    (try go_frame)
    refine wpAnyH_ready (rs := [16]) (by kernel_rfl) (by simp) ?_
    refine AllReadyH.cons (o := _) rfl (fun K hK => ?_) AllReadyH.nil
    refine step_appQ rfl (.tmp 25) (.tmp 32) 62 (by rfl) w1.heap.size 76 i0 _ 4 32 Try.underlying62 HI0.out HZ0.out HY1.out HY2.out rfl (by decide) v24 (0 + i) _ (by rfl) (hOw24) _ (n0 - (i + 1)) (cap - (i + 1)) (rowE (L.drop (i + 1))) (by rfl) HLD.out (src_dropIE (HRD.out.row.below K24.out) HRD.out.len HRD.out.room (i + 1)) (rowE_one _) (by unfold maxLen; omega) (by omega) K24.out.size ?_
    intro v36 w36 hOw36 hgw36 hnw36
    obtain ⟨A36, c36, rfl⟩ := own_shapeU hOw36
    have K36 : Hid (Below w1.heap.size w1 w36) := Lib.hid (below_appE K24.out hgw36 R24.out)
    have O36 := Lib.hid hOw36
    refine hK.out _ _ ?_ (fun hHeld2 => ?_)
    · exact HKS.out _ K36.out
    clear hK K hHeld
    have hHeld := hHeld2
    clear hHeld2
    (try go_frame)
    refine wpAnyH_take (i := 17) (oi := _) (v := ?_) rfl (by kernel_rfl) (by kernel_rfl) (by kernel_rfl) (fun _ _ _ h => h) (Or.inl ⟨by rfl, ?_⟩) hHeld ?_
    rotate_left
    · (intro w1 hSw; (try dsimp only at hSw); go_simp; all_goals with_reducible rfl)
    (try go_frame)
    refine wpAnyH_take (i := 18) (oi := _) (v := ?_) rfl (by kernel_rfl) (by kernel_rfl) (by kernel_rfl) (fun _ _ _ h => h) (Or.inl ⟨by rfl, ?_⟩) hHeld ?_
    rotate_left
    · (intro w1 hSw; (try dsimp only at hSw); go_simp; all_goals with_reducible rfl)
    (try go_frame)
    refine wpAnyH_done (by kernel_rfl) ?_ _
    unfold QL
    refine wpOp_step rfl (fun K hK => ?_)
    obtain ⟨-, q1, q2⟩ := hHeld
    go_simp
    refine hK _ _ ?_
    clear hK K
    go_wp2_with fail
    all_goals
      go_ret
      obtain ⟨h1, h2, h3⟩ := HEND.out w36 A36 c36 K36.out O36.out
      exact ⟨rfl, ⟨A36, c36, h1, fun g e _ => .inr (h3 g e)⟩, h2⟩
  | false =>
    have hrl : remLE v n L = L := by unfold remLE; rw [hh]; rfl
    rw [hrl]
    rw [hh] at hpl
    generalize plcE v n L = i at hpl
    clear hh hple hrl
    go_enter Try.func24, Try.ntmps24
    go_wp2_with ((with_reducible refine hpl.mono ?_); rintro e w1 ⟨rfl, hb1⟩)
    go_ret
    have hb := HB0.out.trans (hb1.mono HB0.out.size)
    exact ⟨rfl, ⟨A, cap, by rw [h.len]; exact h.below hb, fun g e hL => .inl ⟨e, hL⟩⟩, FrU.of_below hb⟩
end Go.Proofs.Ytmlocfojmncghaa
