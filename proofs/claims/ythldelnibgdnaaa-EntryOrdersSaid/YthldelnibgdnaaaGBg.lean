/- Contracts, joined: GSch, GBg. -/
import Derived.Test.YthldelnibgdnaaaGCov
import Derived.Test.YthldelnibgdnaaaGEntr
import Derived.Test.YthldelnibgdnaaaSSchema
namespace Go.Proofs.Ythldelnibgdnaaa
/- Schemas out of choices; the law's beginning. -/
section
open Go.RowKit

theorem schM_of {x : SchemaD} {B : Nat} {w : World} {v0 v1 v2 v3 v4 v5 v6 v7 : Value} (hok : SchemaOk x) (h : SchemaV B w [v0, v1, v2, v3, v4, v5, v6, v7, .int .i64 x.maxBatch, .int .i64 x.budget] x) : SchM w B v0 v1 v2 v3 v4 v5 v6 v7 x := by
  obtain ⟨u0, u1, u2, u3, u4, u5, u6, u7, e, h0, h1, h2, h3, h4, h5, h6, h7, -⟩ := h
  simp only [List.cons.injEq] at e
  obtain ⟨rfl, rfl, rfl, rfl, rfl, rfl, rfl, rfl, -⟩ := e
  refine ⟨h0, h1, h2, h3, h4, h5, h6, h7, ?_⟩
  obtain ⟨q, r, t3, t5, _, _, _, ha⟩ := hok.actions
  obtain ⟨_, ht, _⟩ := tables_keys hok.tables
  obtain ⟨c, d, e, f, g1, g2, _, _, _, _, _, _, hro⟩ := hok.roles
  have hs : x.states.length ≤ 1000000 := by obtain ⟨_, _, _, _, e, _⟩ := hok.states; rw [e]; simp
  rw [hok.fields, hok.headers, ha, ht, hro]
  exact ⟨by decide, by decide, hs, by simp [actDs], by decide, by simp⟩
theorem prm_ok {q r : Nat} {t3 t5 : List Nat} (a : Int) : (actIn (actDs q r t3 t5) a).params.length ≤ 2 := by
  simp only [actDs, actIn]
  repeat' split
  all_goals first | (simp; done) | (simp [act0]; done) | decide
theorem gen_ok {x : SchemaD} (h : SchemaOk x) : GenOk x := by
  obtain ⟨q, r, t3, t5, _, _, _, ha⟩ := h.actions
  obtain ⟨q1, s1, s2, s3, s4, b2, b3, b4, f, _, _, _, _, _, _, ht⟩ := h.tables
  have hk : ∀ t ∈ x.tables, (t.keys ≠ [] ∧ t.keys.length ≤ 3) ∧ (t.actions ≠ [] ∧ t.actions.length ≤ 5) ∧ ∀ k ∈ t.keys, ∃ b : Nat, fbits fieldsD k.field = (b : Int) ∧ 1 ≤ b ∧ b ≤ 32 ∧ (k.kind = 1 ∨ (k.kind = 2 ∧ b = 32) ∨ k.kind = 3 ∨ k.kind = 4) := by
    intro t hm
    rw [ht] at hm
    simp only [List.mem_cons, List.not_mem_nil, or_false] at hm
    rcases hm with rfl | rfl | rfl | rfl
    · refine ⟨by simp [tab1D], by simp [tab1D], fun k hk => ?_⟩
      simp only [tab1D, List.mem_cons, List.not_mem_nil, or_false] at hk
      subst hk
      exact ⟨4, by decide, by decide, by decide, .inl rfl⟩
    · refine ⟨by cases b2 <;> simp [tab2D], by simp [tab2D], fun k hk => ?_⟩
      have hk : k = ⟨[100], 7, 2⟩ ∨ k = ⟨[109], 3, 1⟩ := by cases b2 <;> simp [tab2D] at hk <;> first | exact hk | exact .inl hk
      rcases hk with rfl | rfl
      · exact ⟨32, by decide, by decide, by decide, .inr (.inl ⟨rfl, rfl⟩)⟩
      · exact ⟨8, by decide, by decide, by decide, .inl rfl⟩
    · refine ⟨by cases b3 <;> simp [tab3D], by simp [tab3D], fun k hk => ?_⟩
      have hk : k = ⟨[101], 6, 3⟩ ∨ k = ⟨[97], 4, 3⟩ ∨ k = ⟨[98], 5, 1⟩ := by cases b3 <;> simp [tab3D] at hk <;> first | exact hk | exact hk.elim .inl (fun h => .inr (.inl h))
      rcases hk with rfl | rfl | rfl
      · exact ⟨8, by decide, by decide, by decide, .inr (.inr (.inl rfl))⟩
      · exact ⟨4, by decide, by decide, by decide, .inr (.inr (.inl rfl))⟩
      · exact ⟨4, by decide, by decide, by decide, .inl rfl⟩
    · refine ⟨by cases b4 <;> simp [tab4D], by simp [tab4D], fun k hk => ?_⟩
      have hk : k = ⟨[102], 8, 4⟩ ∨ k = ⟨[103], 9, 1⟩ ∨ k = ⟨[100], 7, 2⟩ := by cases b4 <;> simp [tab4D] at hk <;> first | exact hk | exact .inl hk
      rcases hk with rfl | rfl | rfl
      · exact ⟨12, by decide, by decide, by decide, .inr (.inr (.inr rfl))⟩
      · exact ⟨4, by decide, by decide, by decide, .inl rfl⟩
      · exact ⟨32, by decide, by decide, by decide, .inr (.inl ⟨rfl, rfl⟩)⟩
  refine ⟨by rw [ht]; simp, by rw [ht]; simp, fun t hm k hk2 => ?_, fun t hm => ⟨(hk t hm).1.1, Nat.le_trans (hk t hm).1.2 (by decide)⟩, fun t hm => ⟨(hk t hm).2.1.1, Nat.le_trans (hk t hm).2.1.2 (by decide)⟩, fun a => by rw [ha]; exact Nat.le_trans (prm_ok a) (by decide)⟩
  rw [h.fields]
  exact (hk t hm).2.2 k hk2
def m0D : MatchD := ⟨true, 167772161, 0, 8, 0⟩
def e0D : EntryD := ⟨2, [m0D], 0, 0, []⟩
theorem chk_0 : checkM ⟨true, 167772161, 0, 8, 0⟩ 2 32 = 5 := by
  have h1 : formM ⟨true, 167772161, 0, 8, 0⟩ 2 := by unfold formM usedM; decide
  have h2 : ¬ fitM ⟨true, 167772161, 0, 8, 0⟩ 2 32 := by
    intro h
    have := h.2
    unfold kindM at this
    rw [if_pos rfl] at this
    exact absurd this.2.2 (by decide)
  unfold checkM
  rw [if_pos h1, if_pos ⟨rfl, h2⟩]
theorem cov_0 : decide (covM ⟨true, 167772160, 0, 8, 0⟩ 2 32 167838211) = true := by
  refine decide_eq_true ((cov2 _ _ _).2 fun _ => ?_)
  decide
theorem key_0 {x : SchemaD} (h : TabsNil x.tables) : keyE fieldsD x.tables e0D = 5 := by
  obtain ⟨q, s1, s2, s3, s4, _, _, _, _, _, ht⟩ := h
  have hT : tblAt x.tables 2 = some (tab2D false s2 []) := by rw [ht]; rfl
  unfold keyE
  rw [show e0D.table = 2 from rfl, hT]
  show (if e0D.ms.length = (tab2D false s2 []).keys.length then (if firstBad fieldsD (tab2D false s2 []).keys e0D.ms = 0 then (if prioM (tab2D false s2 []).keys e0D.prio then (0 : Int) else 14) else firstBad fieldsD (tab2D false s2 []).keys e0D.ms) else 13) = 5
  have hf : firstBad fieldsD (tab2D false s2 []).keys e0D.ms = 5 := by
    show (if checkM ⟨true, 167772161, 0, 8, 0⟩ 2 32 = 0 then (0 : Int) else checkM ⟨true, 167772161, 0, 8, 0⟩ 2 32) = 5
    rw [chk_0]
    rfl
  rw [hf]
  rfl
theorem lit_hi : hi 167772160 = 0 ∧ lo 167772160 = 167772160 ∧ hi 167772161 = 0 ∧ lo 167772161 = 167772161 ∧ hi 167838211 = 0 ∧ lo 167838211 = 167838211 := by decide
end
/- The law of layer 10 begins so. -/
section
open Go.RowKit

set_option maxRecDepth 100000 in
set_option maxHeartbeats 1000000 in
theorem g_begun (w : World) : Calls Try.prog 15 #[] w (RetX (.bool true) w) := by
  obtain ⟨W0, hW0⟩ : ∃ W, W = (w.alloc (.cells #[.bool true, .int .u64 0, .int .u64 167772160, .int .u64 0, .int .u64 0, .int .i64 8, .int .u64 0, .int .u64 0] 75)) := ⟨_, rfl⟩
  have hB0 : Below w.heap.size w W0 := by rw [hW0]; exact ((Below.refl w.heap.size w).alloc (by simp <;> omega) _)
  have hz0 : W0.heap.size = w.heap.size + 1 := by rw [hW0]; simp
  have b0_0 : W0.heap[w.heap.size]? = some (.cells #[.bool true, .int .u64 0, .int .u64 167772160, .int .u64 0, .int .u64 0, .int .i64 8, .int .u64 0, .int .u64 0] 75 (0, 0)) := by
    rw [hW0]
    exact heap_alloc_new _ _
  have BB0 := Lib.hid b0_0
  have HB0 := Lib.hid hB0
  have HW0 := Lib.hid hW0
  have KN : Hid (∀ W, Calls Try.prog 4 #[.slice none 0 0, .int .i64 0] W fun e w' => e = .returned (.pointer (some ⟨W.heap.size, 0, none⟩)) ∧ Below W.heap.size W w' ∧ W.heap.size < w'.heap.size ∧ CoAt W.heap.size 0 [] 0 w') := Lib.hid fun W => by
    have := cs_newL 0 (by decide) none 0 0 0 [] W (.inl rfl) (fun h => absurd rfl h) rfl (Nat.le_refl _) (by decide) (fun x hx => by cases hx)
    simpa using this
  clear hB0 hW0 b0_0
  go_enter Try.func15, Try.ntmps15
  go_upto_region 2 with fail
  rw [← HW0.out]
  go_wp2_with fail
  with_reducible refine (KN.out _).mono ?_
  rintro en w2 ⟨rfl, hb2, hl2, hc2⟩
  rw [hz0] at hl2 hc2
  have BB2 := Lib.hid ((hb2.block w.heap.size (by omega)).trans BB0.out)
  have HB2 := Lib.hid (HB0.out.trans (hb2.mono HB0.out.size))
  have HC2 := Lib.hid hc2
  have hz2 := hb2.size
  clear hb2 hc2
  go_wp2_with fail
  with_reducible refine (schema_any HC2.out).mono ?_
  rintro en w3 ⟨v0, v1, v2, v3, v4, v5, v6, v7, x, rfl, ⟨hok, hnil⟩, hel, hg, p, hc⟩
  have hM := schM_of hok (hel w3 w3.heap.size (.refl (Nat.le_refl _)) (Nat.le_refl _))
  obtain ⟨A0, n0, c0, rfl, _⟩ := hM.f.parts
  obtain ⟨A1, n1, c1, rfl, _⟩ := hM.h.parts
  obtain ⟨A2, n2, c2, rfl, _⟩ := hM.st.parts
  obtain ⟨A3, n3, c3, rfl, _⟩ := hM.a.parts
  obtain ⟨A4, n4, c4, rfl, _⟩ := hM.t.parts
  obtain ⟨A5, n5, c5, rfl, _⟩ := hM.sg.parts
  obtain ⟨A6, n6, c6, rfl, _⟩ := hM.r.parts
  obtain ⟨A7, n7, c7, rfl, _⟩ := hM.rf.parts
  obtain ⟨W4, hW4⟩ : ∃ W, W = w3.alloc (.cells #[.slice A0 n0 c0, .slice A1 n1 c1, .slice A2 n2 c2, .slice A3 n3 c3, .slice A4 n4 c4, .slice A5 n5 c5, .slice A6 n6 c6, .slice A7 n7 c7, .int .i64 x.maxBatch, .int .i64 x.budget] 39) := ⟨_, rfl⟩
  have hb4 : Below w3.heap.size w3 W4 := by rw [hW4]; exact (Below.refl _ _).alloc (Nat.le_refl _) _
  have hz4 : W4.heap.size = w3.heap.size + 1 := by rw [hW4]; simp
  have b4 : W4.heap[w3.heap.size]? = some (.cells #[.slice A0 n0 c0, .slice A1 n1 c1, .slice A2 n2 c2, .slice A3 n3 c3, .slice A4 n4 c4, .slice A5 n5 c5, .slice A6 n6 c6, .slice A7 n7 c7, .int .i64 x.maxBatch, .int .i64 x.budget] 39 (0, 0)) := by rw [hW4]; exact heap_alloc_new _ _
  have hz3 := hg.size
  have hl1 : w.heap.size < w2.heap.size := by omega
  have BB3 := Lib.hid ((hg.block w.heap.size (by omega) (fun e => by injection e with e; omega)).trans BB2.out)
  have BB4 := Lib.hid ((hb4.block w.heap.size (by omega)).trans BB3.out)
  have hB34 : Below w.heap.size w W4 := HB2.out.trans ((below_grownK hg (B := w.heap.size) (by omega) (by omega)).trans (hb4.mono (by omega)))
  have s0 : W4.cell? ⟨w3.heap.size, 0, none⟩ = some (.slice A0 n0 c0) := blk_cell b4 0 _ rfl
  have s1 : W4.cell? ⟨w3.heap.size, 1, none⟩ = some (.slice A1 n1 c1) := blk_cell b4 1 _ rfl
  have s2 : W4.cell? ⟨w3.heap.size, 2, none⟩ = some (.slice A2 n2 c2) := blk_cell b4 2 _ rfl
  have s3 : W4.cell? ⟨w3.heap.size, 3, none⟩ = some (.slice A3 n3 c3) := blk_cell b4 3 _ rfl
  have s4 : W4.cell? ⟨w3.heap.size, 4, none⟩ = some (.slice A4 n4 c4) := blk_cell b4 4 _ rfl
  have s5 : W4.cell? ⟨w3.heap.size, 5, none⟩ = some (.slice A5 n5 c5) := blk_cell b4 5 _ rfl
  have s6 : W4.cell? ⟨w3.heap.size, 6, none⟩ = some (.slice A6 n6 c6) := blk_cell b4 6 _ rfl
  have s7 : W4.cell? ⟨w3.heap.size, 7, none⟩ = some (.slice A7 n7 c7) := blk_cell b4 7 _ rfl
  have s8 : W4.cell? ⟨w3.heap.size, 8, none⟩ = some (.int .i64 x.maxBatch) := blk_cell b4 8 _ rfl
  have s9 : W4.cell? ⟨w3.heap.size, 9, none⟩ = some (.int .i64 x.budget) := blk_cell b4 9 _ rfl
  obtain ⟨W5, hW5⟩ : ∃ W, W = W4.alloc (.cells #[.bool true, .int .u64 0, .int .u64 167772161, .int .u64 0, .int .u64 0, .int .i64 8, .int .u64 0, .int .u64 0] 75) := ⟨_, rfl⟩
  have hb5 : Below W4.heap.size W4 W5 := by rw [hW5]; exact (Below.refl _ _).alloc (Nat.le_refl _) _
  have hz5 : W5.heap.size = W4.heap.size + 1 := by rw [hW5]; simp
  have b5 : W5.heap[W4.heap.size]? = some (.cells #[.bool true, .int .u64 0, .int .u64 167772161, .int .u64 0, .int .u64 0, .int .i64 8, .int .u64 0, .int .u64 0] 75 (0, 0)) := by rw [hW5]; exact heap_alloc_new _ _
  have BB5 := Lib.hid ((hb5.block w.heap.size (by omega)).trans BB4.out)
  have HB5 := Lib.hid (hB34.trans (hb5.mono (by omega)))
  have hM5 := hM.below (hb4.trans (hb5.mono (by omega)))
  have hrow : RowV 8 MatchV W5.heap.size W5 (.slice (some ⟨W4.heap.size, 0, none⟩) 1 1) e0D.ms :=
    rowV_lit [(matchCells m0D, m0D)] (fun q hq => by simp at hq; subst hq; rfl) (by omega) rfl (Nat.le_refl _) (by decide) (fun j h => by
      have hj : j < 8 := h
      match j, hj with
      | 0, _ => exact blk_cell b5 0 _ rfl
      | 1, _ => exact blk_cell b5 1 _ rfl
      | 2, _ => exact blk_cell b5 2 _ rfl
      | 3, _ => exact blk_cell b5 3 _ rfl
      | 4, _ => exact blk_cell b5 4 _ rfl
      | 5, _ => exact blk_cell b5 5 _ rfl
      | 6, _ => exact blk_cell b5 6 _ rfl
      | 7, _ => exact blk_cell b5 7 _ rfl
      | (j + 8), hj => exact absurd hj (by omega)) (fun q hq => by simp at hq; subst hq; exact ⟨rfl, by decide, by decide, by decide, by decide, by decide⟩)
  have KC : Hid (Calls Try.prog 38 #[.agg #[.slice A0 n0 c0, .slice A1 n1 c1, .slice A2 n2 c2, .slice A3 n3 c3, .slice A4 n4 c4, .slice A5 n5 c5, .slice A6 n6 c6, .slice A7 n7 c7, .int .i64 x.maxBatch, .int .i64 x.budget], .agg #[.int .i64 2, .slice (some ⟨w3.heap.size + 1, 0, none⟩) 1 1, .int .i64 0, .int .i64 0, .slice none 0 0]] W5 (RetX (.int .i64 5) W5)) := by
    have := g_CheckKey W5 W5.heap.size A0 n0 c0 x.fields (hM5.f.up up_field (by omega)) A4 n4 c4 x.tables (hM5.t.up up_table (by omega)) (Nat.le_refl _) (.slice A1 n1 c1) (.slice A2 n2 c2) (.slice A3 n3 c3) (.slice A5 n5 c5) (.slice A6 n6 c6) (.slice A7 n7 c7) (.int .i64 x.maxBatch) (.int .i64 x.budget) e0D (some ⟨W4.heap.size, 0, none⟩) 1 1 (.slice none 0 0) hrow
    rw [hok.fields, key_0 (hnil rfl), hz4] at this
    exact Lib.hid this
  have HW4 := Lib.hid hW4
  have HW5 := Lib.hid hW5
  clear hrow hM5 hM hel hg hc hok hnil hW4 hW5 hb4 hb5 b4 b5 hB34 HC2 KN
  go_upto_region 3 with fail
  rw [← HW4.out]
  go_wp2_with fail
  rw [← HW5.out]
  with_reducible refine KC.out.mono ?_
  rintro en w6 ⟨rfl, hb6⟩
  have BB6 := (hb6.block w.heap.size (by omega)).trans BB5.out
  have HB6 := Lib.hid (HB5.out.trans (hb6.mono HB5.out.size))
  have m0 : w6.cell? ⟨w.heap.size, 0, none⟩ = some (.bool true) := blk_cell BB6 0 _ rfl
  have m1 : w6.cell? ⟨w.heap.size, 1, none⟩ = some (.int .u64 0) := blk_cell BB6 1 _ rfl
  have m2 : w6.cell? ⟨w.heap.size, 2, none⟩ = some (.int .u64 167772160) := blk_cell BB6 2 _ rfl
  have m3 : w6.cell? ⟨w.heap.size, 3, none⟩ = some (.int .u64 0) := blk_cell BB6 3 _ rfl
  have m4 : w6.cell? ⟨w.heap.size, 4, none⟩ = some (.int .u64 0) := blk_cell BB6 4 _ rfl
  have m5 : w6.cell? ⟨w.heap.size, 5, none⟩ = some (.int .i64 8) := blk_cell BB6 5 _ rfl
  have m6 : w6.cell? ⟨w.heap.size, 6, none⟩ = some (.int .u64 0) := blk_cell BB6 6 _ rfl
  have m7 : w6.cell? ⟨w.heap.size, 7, none⟩ = some (.int .u64 0) := blk_cell BB6 7 _ rfl
  have KV : Hid (∀ W, Calls Try.prog 39 #[.agg #[.bool true, .int .u64 0, .int .u64 167772160, .int .u64 0, .int .u64 0, .int .i64 8, .int .u64 0, .int .u64 0], .int .i64 2, .int .i64 32, .agg #[.int .u64 0, .int .u64 167838211]] W (RetX (.bool true) W)) := Lib.hid fun W => by
    have := g_Covers ⟨true, 167772160, 0, 8, 0⟩ ⟨by decide, by decide, by decide, by decide, by decide⟩ 2 32 167838211 (by decide) W
    rw [cov_0] at this
    simpa only [lit_hi.1, lit_hi.2.1, lit_hi.2.2.2.2.1, lit_hi.2.2.2.2.2, hi_z, lo_z] using this
  clear hb6 BB6 s0 s1 s2 s3 s4 s5 s6 s7 s8 s9
  go_wp2_with fail
  with_reducible refine (KV.out _).mono ?_
  rintro en w7 ⟨rfl, hb7⟩
  have HB7 := Lib.hid (HB6.out.trans (hb7.mono HB6.out.size))
  clear hb7
  go_wp2_with fail
  go_ret
  exact ⟨rfl, HB7.out⟩
end
end Go.Proofs.Ythldelnibgdnaaa
