/- Copies of schemas. -/
import Derived.Test.YtldgjahpmlafgaaGreatKRole
namespace Go.Proofs.YtldgjahpmlafgaaGreat
open Go.RowKit
set_option maxRecDepth 100000 in
set_option maxHeartbeats 8000000 in
theorem ke_schema {w : World} {B : Nat} {cs : List Value} {x : SchemaD} (h : SchemaV B w cs x) (hB : B ≤ w.heap.size) (hs0 : x.fields.length ≤ 1000000) (hs1 : x.headers.length ≤ 1000000) (hs2 : x.states.length ≤ 1000000) (hs3 : x.actions.length ≤ 1000000) (hs4 : x.tables.length ≤ 1000000) (hs5 : x.stages.length ≤ 1000000) (hs6 : x.roles.length ≤ 1000000) (hs7 : x.refs.length ≤ 1000000) (hx1_0 : ∀ y ∈ x.headers, y.fields.length ≤ 1000000) (hx2_0 : ∀ y ∈ x.states, y.cases.length ≤ 1000000) (hx3_0 : ∀ y ∈ x.actions, y.params.length ≤ 1000000) (hx3_1 : ∀ y ∈ x.actions, y.body.length ≤ 1000000) (hx4_0 : ∀ y ∈ x.tables, y.keys.length ≤ 1000000) (hx4_1 : ∀ y ∈ x.tables, y.actions.length ≤ 1000000) (hx4_2 : ∀ y ∈ x.tables, y.args.length ≤ 1000000) (hx6_0 : ∀ y ∈ x.roles, y.grants.length ≤ 1000000) (hx6_1 : ∀ y ∈ x.roles, y.actions.length ≤ 1000000) (hx6_2 : ∀ y ∈ x.roles, ∀ z ∈ y.grants, z.keys.length ≤ 1000000) : Calls Tryz.prog 73 #[.agg cs.toArray] w (RetEl 10 SchemaV w x) := by
  obtain ⟨v0, v1, v2, v3, v4, v5, v6, v7, rfl, r0, r1, r2, r3, r4, r5, r6, r7, h1, h2⟩ := h
  obtain ⟨oA0, on0, oc0, rfl, _⟩ := r0.parts
  obtain ⟨oA1, on1, oc1, rfl, _⟩ := r1.parts
  obtain ⟨oA2, on2, oc2, rfl, _⟩ := r2.parts
  obtain ⟨oA3, on3, oc3, rfl, _⟩ := r3.parts
  obtain ⟨oA4, on4, oc4, rfl, _⟩ := r4.parts
  obtain ⟨oA5, on5, oc5, rfl, _⟩ := r5.parts
  obtain ⟨oA6, on6, oc6, rfl, _⟩ := r6.parts
  obtain ⟨oA7, on7, oc7, rfl, _⟩ := r7.parts
  obtain ⟨W0, hW0⟩ : ∃ W, W = (w.alloc (.cells #[.slice oA0 on0 oc0, .slice oA1 on1 oc1, .slice oA2 on2 oc2, .slice oA3 on3 oc3, .slice oA4 on4 oc4, .slice oA5 on5 oc5, .slice oA6 on6 oc6, .slice oA7 on7 oc7, .int .i64 x.maxBatch, .int .i64 x.budget] 36)).alloc (.cells #[.slice none 0 0, .slice none 0 0, .slice none 0 0, .slice none 0 0, .slice none 0 0, .slice none 0 0, .slice none 0 0, .slice none 0 0, .int .i64 0, .int .i64 0] 36) := ⟨_, rfl⟩
  have hb0 : Below w.heap.size w W0 := by rw [hW0]; exact ((Below.refl w.heap.size w).alloc (by simp) _).alloc (by simp) _
  have hz0 : w.heap.size + 2 = W0.heap.size := by rw [hW0]; simp
  have b0 : W0.heap[w.heap.size]? = some (.cells #[.slice oA0 on0 oc0, .slice oA1 on1 oc1, .slice oA2 on2 oc2, .slice oA3 on3 oc3, .slice oA4 on4 oc4, .slice oA5 on5 oc5, .slice oA6 on6 oc6, .slice oA7 on7 oc7, .int .i64 x.maxBatch, .int .i64 x.budget] 36 (0, 0)) := by
    rw [hW0]
    exact ((grown_alloc _ _ none).block _ (by simp) (by simp)).trans (heap_alloc_new _ _)
  have c0 : W0.heap[w.heap.size + 1]? = some (.cells #[.slice none 0 0, .slice none 0 0, .slice none 0 0, .slice none 0 0, .slice none 0 0, .slice none 0 0, .slice none 0 0, .slice none 0 0, .int .i64 0, .int .i64 0] 36 (0, 0)) := by
    rw [hW0]
    rw [show w.heap.size + 1 = (w.alloc (.cells #[.slice oA0 on0 oc0, .slice oA1 on1 oc1, .slice oA2 on2 oc2, .slice oA3 on3 oc3, .slice oA4 on4 oc4, .slice oA5 on5 oc5, .slice oA6 on6 oc6, .slice oA7 on7 oc7, .int .i64 x.maxBatch, .int .i64 x.budget] 36)).heap.size by simp]
    exact heap_alloc_new _ _
  have HW0 := Lib.hid hW0
  clear hW0
  have K0 : Hid (∀ W, Below w.heap.size w W → Calls Tryz.prog 109 #[.slice oA0 on0 oc0] W (RetClo 3 FieldV W (x.fields))) := Lib.hid fun W hb => kl_field (r0.below kept_field (hb.mono hB)) (Nat.le_trans hB hb.size) hs0
  have K1 : Hid (∀ W, Below w.heap.size w W → Calls Tryz.prog 110 #[.slice oA1 on1 oc1, .func (.func 111) #[] #[]] W (RetClo 3 HeaderV W (x.headers))) := Lib.hid fun W hb => ea_header (r1.below kept_header (hb.mono hB)) (Nat.le_trans hB hb.size) hs1 hx1_0
  have K2 : Hid (∀ W, Below w.heap.size w W → Calls Tryz.prog 112 #[.slice oA2 on2 oc2, .func (.func 113) #[] #[]] W (RetClo 5 StateV W (x.states))) := Lib.hid fun W hb => ea_state (r2.below kept_state (hb.mono hB)) (Nat.le_trans hB hb.size) hs2 hx2_0
  have K3 : Hid (∀ W, Below w.heap.size w W → Calls Tryz.prog 114 #[.slice oA3 on3 oc3, .func (.func 115) #[] #[]] W (RetClo 5 ActionV W (x.actions))) := Lib.hid fun W hb => ea_action (r3.below kept_action (hb.mono hB)) (Nat.le_trans hB hb.size) hs3 hx3_0 hx3_1
  have K4 : Hid (∀ W, Below w.heap.size w W → Calls Tryz.prog 116 #[.slice oA4 on4 oc4, .func (.func 117) #[] #[]] W (RetClo 8 TableV W (x.tables))) := Lib.hid fun W hb => ea_table (r4.below kept_table (hb.mono hB)) (Nat.le_trans hB hb.size) hs4 hx4_0 hx4_1 hx4_2
  have K5 : Hid (∀ W, Below w.heap.size w W → Calls Tryz.prog 118 #[.slice oA5 on5 oc5] W (RetClo 2 StageV W (x.stages))) := Lib.hid fun W hb => kl_stage (r5.below kept_stage (hb.mono hB)) (Nat.le_trans hB hb.size) hs5
  have K6 : Hid (∀ W, Below w.heap.size w W → Calls Tryz.prog 119 #[.slice oA6 on6 oc6, .func (.func 120) #[] #[]] W (RetClo 6 RoleV W (x.roles))) := Lib.hid fun W hb => ea_role (r6.below kept_role (hb.mono hB)) (Nat.le_trans hB hb.size) hs6 hx6_0 hx6_1 hx6_2
  have K7 : Hid (∀ W, Below w.heap.size w W → Calls Tryz.prog 121 #[.slice oA7 on7 oc7] W (RetClo 6 RefV W (x.refs))) := Lib.hid fun W hb => kl_ref (r7.below kept_ref (hb.mono hB)) (Nat.le_trans hB hb.size) hs7
  clear r0 r1 r2 r3 r4 r5 r6 r7
  go_enter Tryz.func73, Tryz.ntmps73
  go_upto_region 1 with fail
  rw [← HW0.out]
  have HB0 := Lib.hid hb0
  have e0 : W0.cell? ⟨w.heap.size, 0, none⟩ = some (.slice oA0 on0 oc0) := blk_cell b0 0 _ rfl
  go_upto_region 2 with (go_at_call 109; (with_reducible refine (K0.out _ HB0.out).mono ?_); rintro en u0 ⟨nA0, nn0, nc0, rfl, hr0, hd0⟩; have g0 := (hd0.block w.heap.size (by omega)).trans b0; have y0 := (hd0.block (w.heap.size + 1) (by omega)).trans c0; have t0 := blk_cell g0 0 _ rfl; have f0 := blk_froz g0 0)
  obtain ⟨W1, hW1⟩ : ∃ W, W = u0.setCell ⟨w.heap.size, 0, none⟩ (.slice nA0 nn0 nc0) := ⟨_, rfl⟩
  rw [← hW1]
  have hz1 : w.heap.size + 2 ≤ W1.heap.size := by rw [hW1]; have := hd0.size; simp; omega
  have hgs0 : u0.grownBy W1 (some w.heap.size) := by rw [hW1]; exact grown_set u0 w.heap.size 0 _
  have b1 : W1.heap[w.heap.size]? = some (.cells #[.slice nA0 nn0 nc0, .slice oA1 on1 oc1, .slice oA2 on2 oc2, .slice oA3 on3 oc3, .slice oA4 on4 oc4, .slice oA5 on5 oc5, .slice oA6 on6 oc6, .slice oA7 on7 oc7, .int .i64 x.maxBatch, .int .i64 x.budget] 36 (0, 0)) := by rw [hW1]; exact blk_set g0 0 _
  have c1 : W1.heap[w.heap.size + 1]? = some (.cells #[.slice none 0 0, .slice none 0 0, .slice none 0 0, .slice none 0 0, .slice none 0 0, .slice none 0 0, .slice none 0 0, .slice none 0 0, .int .i64 0, .int .i64 0] 36 (0, 0)) := (hgs0.block _ (by have := hd0.size; omega) (fun e => by injection e with e; omega)).trans y0
  have hb1 : Below w.heap.size w W1 := HB0.out.trans (⟨hgs0.os.trans hd0.os, hgs0.tape.trans hd0.tape, hgs0.output.trans hd0.output, Nat.le_trans hd0.size hgs0.size, fun k hk => (hgs0.block k (by have := hd0.size; have := HB0.out.size; omega) (fun e => by injection e with e; omega)).trans (hd0.block k (by have := HB0.out.size; omega))⟩)
  have lt0 : w.heap.size < W0.heap.size := Nat.lt_of_lt_of_le (by omega) (show w.heap.size + 2 ≤ W0.heap.size from by first | exact hz0 | exact Nat.le_of_eq hz0)
  have hr0w := hr0.stay hgs0 (Nat.le_refl _) (fun k e => .inl (by injection e with e; rw [← e]; exact lt0))
  have le0_1 : u0.heap.size ≤ W1.heap.size := hgs0.size
  clear e0 t0 f0 hW1
  have HB1 := Lib.hid hb1
  have e1 : W1.cell? ⟨w.heap.size, 1, none⟩ = some (.slice oA1 on1 oc1) := blk_cell b1 1 _ rfl
  go_upto_region 3 with (go_at_call 110; (with_reducible refine (K1.out _ HB1.out).mono ?_); rintro en u1 ⟨nA1, nn1, nc1, rfl, hr1, hd1⟩; have g1 := (hd1.block w.heap.size (by omega)).trans b1; have y1 := (hd1.block (w.heap.size + 1) (by omega)).trans c1; have t1 := blk_cell g1 1 _ rfl; have f1 := blk_froz g1 1)
  obtain ⟨W2, hW2⟩ : ∃ W, W = u1.setCell ⟨w.heap.size, 1, none⟩ (.slice nA1 nn1 nc1) := ⟨_, rfl⟩
  rw [← hW2]
  have hz2 : w.heap.size + 2 ≤ W2.heap.size := by rw [hW2]; have := hd1.size; simp; omega
  have hgs1 : u1.grownBy W2 (some w.heap.size) := by rw [hW2]; exact grown_set u1 w.heap.size 1 _
  have b2 : W2.heap[w.heap.size]? = some (.cells #[.slice nA0 nn0 nc0, .slice nA1 nn1 nc1, .slice oA2 on2 oc2, .slice oA3 on3 oc3, .slice oA4 on4 oc4, .slice oA5 on5 oc5, .slice oA6 on6 oc6, .slice oA7 on7 oc7, .int .i64 x.maxBatch, .int .i64 x.budget] 36 (0, 0)) := by rw [hW2]; exact blk_set g1 1 _
  have c2 : W2.heap[w.heap.size + 1]? = some (.cells #[.slice none 0 0, .slice none 0 0, .slice none 0 0, .slice none 0 0, .slice none 0 0, .slice none 0 0, .slice none 0 0, .slice none 0 0, .int .i64 0, .int .i64 0] 36 (0, 0)) := (hgs1.block _ (by have := hd1.size; omega) (fun e => by injection e with e; omega)).trans y1
  have hb2 : Below w.heap.size w W2 := HB1.out.trans (⟨hgs1.os.trans hd1.os, hgs1.tape.trans hd1.tape, hgs1.output.trans hd1.output, Nat.le_trans hd1.size hgs1.size, fun k hk => (hgs1.block k (by have := hd1.size; have := HB1.out.size; omega) (fun e => by injection e with e; omega)).trans (hd1.block k (by have := HB1.out.size; omega))⟩)
  have lt1 : w.heap.size < W1.heap.size := Nat.lt_of_lt_of_le (by omega) (show w.heap.size + 2 ≤ W1.heap.size from by first | exact hz1 | exact Nat.le_of_eq hz1)
  have hr1w := hr1.stay hgs1 (Nat.le_refl _) (fun k e => .inl (by injection e with e; rw [← e]; exact lt1))
  have le1_2 : u1.heap.size ≤ W2.heap.size := hgs1.size
  have le0_1u : u0.heap.size ≤ u1.heap.size := Nat.le_trans le0_1 hd1.size
  have le0_2 : u0.heap.size ≤ W2.heap.size := Nat.le_trans le0_1u hgs1.size
  have hr0x1 := (hr0w.stay (grown_of_below hd1 none) le0_1 (fun k e => by cases e)).stay hgs1 le0_1u (fun k e => .inl (by injection e with e; rw [← e]; exact lt0))
  clear e1 t1 f1 hW2
  have HB2 := Lib.hid hb2
  have e2 : W2.cell? ⟨w.heap.size, 2, none⟩ = some (.slice oA2 on2 oc2) := blk_cell b2 2 _ rfl
  go_upto_region 4 with (go_at_call 112; (with_reducible refine (K2.out _ HB2.out).mono ?_); rintro en u2 ⟨nA2, nn2, nc2, rfl, hr2, hd2⟩; have g2 := (hd2.block w.heap.size (by omega)).trans b2; have y2 := (hd2.block (w.heap.size + 1) (by omega)).trans c2; have t2 := blk_cell g2 2 _ rfl; have f2 := blk_froz g2 2)
  obtain ⟨W3, hW3⟩ : ∃ W, W = u2.setCell ⟨w.heap.size, 2, none⟩ (.slice nA2 nn2 nc2) := ⟨_, rfl⟩
  rw [← hW3]
  have hz3 : w.heap.size + 2 ≤ W3.heap.size := by rw [hW3]; have := hd2.size; simp; omega
  have hgs2 : u2.grownBy W3 (some w.heap.size) := by rw [hW3]; exact grown_set u2 w.heap.size 2 _
  have b3 : W3.heap[w.heap.size]? = some (.cells #[.slice nA0 nn0 nc0, .slice nA1 nn1 nc1, .slice nA2 nn2 nc2, .slice oA3 on3 oc3, .slice oA4 on4 oc4, .slice oA5 on5 oc5, .slice oA6 on6 oc6, .slice oA7 on7 oc7, .int .i64 x.maxBatch, .int .i64 x.budget] 36 (0, 0)) := by rw [hW3]; exact blk_set g2 2 _
  have c3 : W3.heap[w.heap.size + 1]? = some (.cells #[.slice none 0 0, .slice none 0 0, .slice none 0 0, .slice none 0 0, .slice none 0 0, .slice none 0 0, .slice none 0 0, .slice none 0 0, .int .i64 0, .int .i64 0] 36 (0, 0)) := (hgs2.block _ (by have := hd2.size; omega) (fun e => by injection e with e; omega)).trans y2
  have hb3 : Below w.heap.size w W3 := HB2.out.trans (⟨hgs2.os.trans hd2.os, hgs2.tape.trans hd2.tape, hgs2.output.trans hd2.output, Nat.le_trans hd2.size hgs2.size, fun k hk => (hgs2.block k (by have := hd2.size; have := HB2.out.size; omega) (fun e => by injection e with e; omega)).trans (hd2.block k (by have := HB2.out.size; omega))⟩)
  have lt2 : w.heap.size < W2.heap.size := Nat.lt_of_lt_of_le (by omega) (show w.heap.size + 2 ≤ W2.heap.size from by first | exact hz2 | exact Nat.le_of_eq hz2)
  have hr2w := hr2.stay hgs2 (Nat.le_refl _) (fun k e => .inl (by injection e with e; rw [← e]; exact lt2))
  have le2_3 : u2.heap.size ≤ W3.heap.size := hgs2.size
  have le0_2u : u0.heap.size ≤ u2.heap.size := Nat.le_trans le0_2 hd2.size
  have le0_3 : u0.heap.size ≤ W3.heap.size := Nat.le_trans le0_2u hgs2.size
  have hr0x2 := (hr0x1.stay (grown_of_below hd2 none) le0_2 (fun k e => by cases e)).stay hgs2 le0_2u (fun k e => .inl (by injection e with e; rw [← e]; exact lt0))
  have le1_2u : u1.heap.size ≤ u2.heap.size := Nat.le_trans le1_2 hd2.size
  have le1_3 : u1.heap.size ≤ W3.heap.size := Nat.le_trans le1_2u hgs2.size
  have hr1x2 := (hr1w.stay (grown_of_below hd2 none) le1_2 (fun k e => by cases e)).stay hgs2 le1_2u (fun k e => .inl (by injection e with e; rw [← e]; exact lt1))
  clear e2 t2 f2 hW3
  have HB3 := Lib.hid hb3
  have e3 : W3.cell? ⟨w.heap.size, 3, none⟩ = some (.slice oA3 on3 oc3) := blk_cell b3 3 _ rfl
  go_upto_region 5 with (go_at_call 114; (with_reducible refine (K3.out _ HB3.out).mono ?_); rintro en u3 ⟨nA3, nn3, nc3, rfl, hr3, hd3⟩; have g3 := (hd3.block w.heap.size (by omega)).trans b3; have y3 := (hd3.block (w.heap.size + 1) (by omega)).trans c3; have t3 := blk_cell g3 3 _ rfl; have f3 := blk_froz g3 3)
  obtain ⟨W4, hW4⟩ : ∃ W, W = u3.setCell ⟨w.heap.size, 3, none⟩ (.slice nA3 nn3 nc3) := ⟨_, rfl⟩
  rw [← hW4]
  have hz4 : w.heap.size + 2 ≤ W4.heap.size := by rw [hW4]; have := hd3.size; simp; omega
  have hgs3 : u3.grownBy W4 (some w.heap.size) := by rw [hW4]; exact grown_set u3 w.heap.size 3 _
  have b4 : W4.heap[w.heap.size]? = some (.cells #[.slice nA0 nn0 nc0, .slice nA1 nn1 nc1, .slice nA2 nn2 nc2, .slice nA3 nn3 nc3, .slice oA4 on4 oc4, .slice oA5 on5 oc5, .slice oA6 on6 oc6, .slice oA7 on7 oc7, .int .i64 x.maxBatch, .int .i64 x.budget] 36 (0, 0)) := by rw [hW4]; exact blk_set g3 3 _
  have c4 : W4.heap[w.heap.size + 1]? = some (.cells #[.slice none 0 0, .slice none 0 0, .slice none 0 0, .slice none 0 0, .slice none 0 0, .slice none 0 0, .slice none 0 0, .slice none 0 0, .int .i64 0, .int .i64 0] 36 (0, 0)) := (hgs3.block _ (by have := hd3.size; omega) (fun e => by injection e with e; omega)).trans y3
  have hb4 : Below w.heap.size w W4 := HB3.out.trans (⟨hgs3.os.trans hd3.os, hgs3.tape.trans hd3.tape, hgs3.output.trans hd3.output, Nat.le_trans hd3.size hgs3.size, fun k hk => (hgs3.block k (by have := hd3.size; have := HB3.out.size; omega) (fun e => by injection e with e; omega)).trans (hd3.block k (by have := HB3.out.size; omega))⟩)
  have lt3 : w.heap.size < W3.heap.size := Nat.lt_of_lt_of_le (by omega) (show w.heap.size + 2 ≤ W3.heap.size from by first | exact hz3 | exact Nat.le_of_eq hz3)
  have hr3w := hr3.stay hgs3 (Nat.le_refl _) (fun k e => .inl (by injection e with e; rw [← e]; exact lt3))
  have le3_4 : u3.heap.size ≤ W4.heap.size := hgs3.size
  have le0_3u : u0.heap.size ≤ u3.heap.size := Nat.le_trans le0_3 hd3.size
  have le0_4 : u0.heap.size ≤ W4.heap.size := Nat.le_trans le0_3u hgs3.size
  have hr0x3 := (hr0x2.stay (grown_of_below hd3 none) le0_3 (fun k e => by cases e)).stay hgs3 le0_3u (fun k e => .inl (by injection e with e; rw [← e]; exact lt0))
  have le1_3u : u1.heap.size ≤ u3.heap.size := Nat.le_trans le1_3 hd3.size
  have le1_4 : u1.heap.size ≤ W4.heap.size := Nat.le_trans le1_3u hgs3.size
  have hr1x3 := (hr1x2.stay (grown_of_below hd3 none) le1_3 (fun k e => by cases e)).stay hgs3 le1_3u (fun k e => .inl (by injection e with e; rw [← e]; exact lt1))
  have le2_3u : u2.heap.size ≤ u3.heap.size := Nat.le_trans le2_3 hd3.size
  have le2_4 : u2.heap.size ≤ W4.heap.size := Nat.le_trans le2_3u hgs3.size
  have hr2x3 := (hr2w.stay (grown_of_below hd3 none) le2_3 (fun k e => by cases e)).stay hgs3 le2_3u (fun k e => .inl (by injection e with e; rw [← e]; exact lt2))
  clear e3 t3 f3 hW4
  have HB4 := Lib.hid hb4
  have e4 : W4.cell? ⟨w.heap.size, 4, none⟩ = some (.slice oA4 on4 oc4) := blk_cell b4 4 _ rfl
  go_upto_region 6 with (go_at_call 116; (with_reducible refine (K4.out _ HB4.out).mono ?_); rintro en u4 ⟨nA4, nn4, nc4, rfl, hr4, hd4⟩; have g4 := (hd4.block w.heap.size (by omega)).trans b4; have y4 := (hd4.block (w.heap.size + 1) (by omega)).trans c4; have t4 := blk_cell g4 4 _ rfl; have f4 := blk_froz g4 4)
  obtain ⟨W5, hW5⟩ : ∃ W, W = u4.setCell ⟨w.heap.size, 4, none⟩ (.slice nA4 nn4 nc4) := ⟨_, rfl⟩
  rw [← hW5]
  have hz5 : w.heap.size + 2 ≤ W5.heap.size := by rw [hW5]; have := hd4.size; simp; omega
  have hgs4 : u4.grownBy W5 (some w.heap.size) := by rw [hW5]; exact grown_set u4 w.heap.size 4 _
  have b5 : W5.heap[w.heap.size]? = some (.cells #[.slice nA0 nn0 nc0, .slice nA1 nn1 nc1, .slice nA2 nn2 nc2, .slice nA3 nn3 nc3, .slice nA4 nn4 nc4, .slice oA5 on5 oc5, .slice oA6 on6 oc6, .slice oA7 on7 oc7, .int .i64 x.maxBatch, .int .i64 x.budget] 36 (0, 0)) := by rw [hW5]; exact blk_set g4 4 _
  have c5 : W5.heap[w.heap.size + 1]? = some (.cells #[.slice none 0 0, .slice none 0 0, .slice none 0 0, .slice none 0 0, .slice none 0 0, .slice none 0 0, .slice none 0 0, .slice none 0 0, .int .i64 0, .int .i64 0] 36 (0, 0)) := (hgs4.block _ (by have := hd4.size; omega) (fun e => by injection e with e; omega)).trans y4
  have hb5 : Below w.heap.size w W5 := HB4.out.trans (⟨hgs4.os.trans hd4.os, hgs4.tape.trans hd4.tape, hgs4.output.trans hd4.output, Nat.le_trans hd4.size hgs4.size, fun k hk => (hgs4.block k (by have := hd4.size; have := HB4.out.size; omega) (fun e => by injection e with e; omega)).trans (hd4.block k (by have := HB4.out.size; omega))⟩)
  have lt4 : w.heap.size < W4.heap.size := Nat.lt_of_lt_of_le (by omega) (show w.heap.size + 2 ≤ W4.heap.size from by first | exact hz4 | exact Nat.le_of_eq hz4)
  have hr4w := hr4.stay hgs4 (Nat.le_refl _) (fun k e => .inl (by injection e with e; rw [← e]; exact lt4))
  have le4_5 : u4.heap.size ≤ W5.heap.size := hgs4.size
  have le0_4u : u0.heap.size ≤ u4.heap.size := Nat.le_trans le0_4 hd4.size
  have le0_5 : u0.heap.size ≤ W5.heap.size := Nat.le_trans le0_4u hgs4.size
  have hr0x4 := (hr0x3.stay (grown_of_below hd4 none) le0_4 (fun k e => by cases e)).stay hgs4 le0_4u (fun k e => .inl (by injection e with e; rw [← e]; exact lt0))
  have le1_4u : u1.heap.size ≤ u4.heap.size := Nat.le_trans le1_4 hd4.size
  have le1_5 : u1.heap.size ≤ W5.heap.size := Nat.le_trans le1_4u hgs4.size
  have hr1x4 := (hr1x3.stay (grown_of_below hd4 none) le1_4 (fun k e => by cases e)).stay hgs4 le1_4u (fun k e => .inl (by injection e with e; rw [← e]; exact lt1))
  have le2_4u : u2.heap.size ≤ u4.heap.size := Nat.le_trans le2_4 hd4.size
  have le2_5 : u2.heap.size ≤ W5.heap.size := Nat.le_trans le2_4u hgs4.size
  have hr2x4 := (hr2x3.stay (grown_of_below hd4 none) le2_4 (fun k e => by cases e)).stay hgs4 le2_4u (fun k e => .inl (by injection e with e; rw [← e]; exact lt2))
  have le3_4u : u3.heap.size ≤ u4.heap.size := Nat.le_trans le3_4 hd4.size
  have le3_5 : u3.heap.size ≤ W5.heap.size := Nat.le_trans le3_4u hgs4.size
  have hr3x4 := (hr3w.stay (grown_of_below hd4 none) le3_4 (fun k e => by cases e)).stay hgs4 le3_4u (fun k e => .inl (by injection e with e; rw [← e]; exact lt3))
  clear e4 t4 f4 hW5
  have HB5 := Lib.hid hb5
  have e5 : W5.cell? ⟨w.heap.size, 5, none⟩ = some (.slice oA5 on5 oc5) := blk_cell b5 5 _ rfl
  go_upto_region 7 with (go_at_call 118; (with_reducible refine (K5.out _ HB5.out).mono ?_); rintro en u5 ⟨nA5, nn5, nc5, rfl, hr5, hd5⟩; have g5 := (hd5.block w.heap.size (by omega)).trans b5; have y5 := (hd5.block (w.heap.size + 1) (by omega)).trans c5; have t5 := blk_cell g5 5 _ rfl; have f5 := blk_froz g5 5)
  obtain ⟨W6, hW6⟩ : ∃ W, W = u5.setCell ⟨w.heap.size, 5, none⟩ (.slice nA5 nn5 nc5) := ⟨_, rfl⟩
  rw [← hW6]
  have hz6 : w.heap.size + 2 ≤ W6.heap.size := by rw [hW6]; have := hd5.size; simp; omega
  have hgs5 : u5.grownBy W6 (some w.heap.size) := by rw [hW6]; exact grown_set u5 w.heap.size 5 _
  have b6 : W6.heap[w.heap.size]? = some (.cells #[.slice nA0 nn0 nc0, .slice nA1 nn1 nc1, .slice nA2 nn2 nc2, .slice nA3 nn3 nc3, .slice nA4 nn4 nc4, .slice nA5 nn5 nc5, .slice oA6 on6 oc6, .slice oA7 on7 oc7, .int .i64 x.maxBatch, .int .i64 x.budget] 36 (0, 0)) := by rw [hW6]; exact blk_set g5 5 _
  have c6 : W6.heap[w.heap.size + 1]? = some (.cells #[.slice none 0 0, .slice none 0 0, .slice none 0 0, .slice none 0 0, .slice none 0 0, .slice none 0 0, .slice none 0 0, .slice none 0 0, .int .i64 0, .int .i64 0] 36 (0, 0)) := (hgs5.block _ (by have := hd5.size; omega) (fun e => by injection e with e; omega)).trans y5
  have hb6 : Below w.heap.size w W6 := HB5.out.trans (⟨hgs5.os.trans hd5.os, hgs5.tape.trans hd5.tape, hgs5.output.trans hd5.output, Nat.le_trans hd5.size hgs5.size, fun k hk => (hgs5.block k (by have := hd5.size; have := HB5.out.size; omega) (fun e => by injection e with e; omega)).trans (hd5.block k (by have := HB5.out.size; omega))⟩)
  have lt5 : w.heap.size < W5.heap.size := Nat.lt_of_lt_of_le (by omega) (show w.heap.size + 2 ≤ W5.heap.size from by first | exact hz5 | exact Nat.le_of_eq hz5)
  have hr5w := hr5.stay hgs5 (Nat.le_refl _) (fun k e => .inl (by injection e with e; rw [← e]; exact lt5))
  have le5_6 : u5.heap.size ≤ W6.heap.size := hgs5.size
  have le0_5u : u0.heap.size ≤ u5.heap.size := Nat.le_trans le0_5 hd5.size
  have le0_6 : u0.heap.size ≤ W6.heap.size := Nat.le_trans le0_5u hgs5.size
  have hr0x5 := (hr0x4.stay (grown_of_below hd5 none) le0_5 (fun k e => by cases e)).stay hgs5 le0_5u (fun k e => .inl (by injection e with e; rw [← e]; exact lt0))
  have le1_5u : u1.heap.size ≤ u5.heap.size := Nat.le_trans le1_5 hd5.size
  have le1_6 : u1.heap.size ≤ W6.heap.size := Nat.le_trans le1_5u hgs5.size
  have hr1x5 := (hr1x4.stay (grown_of_below hd5 none) le1_5 (fun k e => by cases e)).stay hgs5 le1_5u (fun k e => .inl (by injection e with e; rw [← e]; exact lt1))
  have le2_5u : u2.heap.size ≤ u5.heap.size := Nat.le_trans le2_5 hd5.size
  have le2_6 : u2.heap.size ≤ W6.heap.size := Nat.le_trans le2_5u hgs5.size
  have hr2x5 := (hr2x4.stay (grown_of_below hd5 none) le2_5 (fun k e => by cases e)).stay hgs5 le2_5u (fun k e => .inl (by injection e with e; rw [← e]; exact lt2))
  have le3_5u : u3.heap.size ≤ u5.heap.size := Nat.le_trans le3_5 hd5.size
  have le3_6 : u3.heap.size ≤ W6.heap.size := Nat.le_trans le3_5u hgs5.size
  have hr3x5 := (hr3x4.stay (grown_of_below hd5 none) le3_5 (fun k e => by cases e)).stay hgs5 le3_5u (fun k e => .inl (by injection e with e; rw [← e]; exact lt3))
  have le4_5u : u4.heap.size ≤ u5.heap.size := Nat.le_trans le4_5 hd5.size
  have le4_6 : u4.heap.size ≤ W6.heap.size := Nat.le_trans le4_5u hgs5.size
  have hr4x5 := (hr4w.stay (grown_of_below hd5 none) le4_5 (fun k e => by cases e)).stay hgs5 le4_5u (fun k e => .inl (by injection e with e; rw [← e]; exact lt4))
  clear e5 t5 f5 hW6
  have HB6 := Lib.hid hb6
  have e6 : W6.cell? ⟨w.heap.size, 6, none⟩ = some (.slice oA6 on6 oc6) := blk_cell b6 6 _ rfl
  go_upto_region 8 with (go_at_call 119; (with_reducible refine (K6.out _ HB6.out).mono ?_); rintro en u6 ⟨nA6, nn6, nc6, rfl, hr6, hd6⟩; have g6 := (hd6.block w.heap.size (by omega)).trans b6; have y6 := (hd6.block (w.heap.size + 1) (by omega)).trans c6; have t6 := blk_cell g6 6 _ rfl; have f6 := blk_froz g6 6)
  obtain ⟨W7, hW7⟩ : ∃ W, W = u6.setCell ⟨w.heap.size, 6, none⟩ (.slice nA6 nn6 nc6) := ⟨_, rfl⟩
  rw [← hW7]
  have hz7 : w.heap.size + 2 ≤ W7.heap.size := by rw [hW7]; have := hd6.size; simp; omega
  have hgs6 : u6.grownBy W7 (some w.heap.size) := by rw [hW7]; exact grown_set u6 w.heap.size 6 _
  have b7 : W7.heap[w.heap.size]? = some (.cells #[.slice nA0 nn0 nc0, .slice nA1 nn1 nc1, .slice nA2 nn2 nc2, .slice nA3 nn3 nc3, .slice nA4 nn4 nc4, .slice nA5 nn5 nc5, .slice nA6 nn6 nc6, .slice oA7 on7 oc7, .int .i64 x.maxBatch, .int .i64 x.budget] 36 (0, 0)) := by rw [hW7]; exact blk_set g6 6 _
  have c7 : W7.heap[w.heap.size + 1]? = some (.cells #[.slice none 0 0, .slice none 0 0, .slice none 0 0, .slice none 0 0, .slice none 0 0, .slice none 0 0, .slice none 0 0, .slice none 0 0, .int .i64 0, .int .i64 0] 36 (0, 0)) := (hgs6.block _ (by have := hd6.size; omega) (fun e => by injection e with e; omega)).trans y6
  have hb7 : Below w.heap.size w W7 := HB6.out.trans (⟨hgs6.os.trans hd6.os, hgs6.tape.trans hd6.tape, hgs6.output.trans hd6.output, Nat.le_trans hd6.size hgs6.size, fun k hk => (hgs6.block k (by have := hd6.size; have := HB6.out.size; omega) (fun e => by injection e with e; omega)).trans (hd6.block k (by have := HB6.out.size; omega))⟩)
  have lt6 : w.heap.size < W6.heap.size := Nat.lt_of_lt_of_le (by omega) (show w.heap.size + 2 ≤ W6.heap.size from by first | exact hz6 | exact Nat.le_of_eq hz6)
  have hr6w := hr6.stay hgs6 (Nat.le_refl _) (fun k e => .inl (by injection e with e; rw [← e]; exact lt6))
  have le6_7 : u6.heap.size ≤ W7.heap.size := hgs6.size
  have le0_6u : u0.heap.size ≤ u6.heap.size := Nat.le_trans le0_6 hd6.size
  have le0_7 : u0.heap.size ≤ W7.heap.size := Nat.le_trans le0_6u hgs6.size
  have hr0x6 := (hr0x5.stay (grown_of_below hd6 none) le0_6 (fun k e => by cases e)).stay hgs6 le0_6u (fun k e => .inl (by injection e with e; rw [← e]; exact lt0))
  have le1_6u : u1.heap.size ≤ u6.heap.size := Nat.le_trans le1_6 hd6.size
  have le1_7 : u1.heap.size ≤ W7.heap.size := Nat.le_trans le1_6u hgs6.size
  have hr1x6 := (hr1x5.stay (grown_of_below hd6 none) le1_6 (fun k e => by cases e)).stay hgs6 le1_6u (fun k e => .inl (by injection e with e; rw [← e]; exact lt1))
  have le2_6u : u2.heap.size ≤ u6.heap.size := Nat.le_trans le2_6 hd6.size
  have le2_7 : u2.heap.size ≤ W7.heap.size := Nat.le_trans le2_6u hgs6.size
  have hr2x6 := (hr2x5.stay (grown_of_below hd6 none) le2_6 (fun k e => by cases e)).stay hgs6 le2_6u (fun k e => .inl (by injection e with e; rw [← e]; exact lt2))
  have le3_6u : u3.heap.size ≤ u6.heap.size := Nat.le_trans le3_6 hd6.size
  have le3_7 : u3.heap.size ≤ W7.heap.size := Nat.le_trans le3_6u hgs6.size
  have hr3x6 := (hr3x5.stay (grown_of_below hd6 none) le3_6 (fun k e => by cases e)).stay hgs6 le3_6u (fun k e => .inl (by injection e with e; rw [← e]; exact lt3))
  have le4_6u : u4.heap.size ≤ u6.heap.size := Nat.le_trans le4_6 hd6.size
  have le4_7 : u4.heap.size ≤ W7.heap.size := Nat.le_trans le4_6u hgs6.size
  have hr4x6 := (hr4x5.stay (grown_of_below hd6 none) le4_6 (fun k e => by cases e)).stay hgs6 le4_6u (fun k e => .inl (by injection e with e; rw [← e]; exact lt4))
  have le5_6u : u5.heap.size ≤ u6.heap.size := Nat.le_trans le5_6 hd6.size
  have le5_7 : u5.heap.size ≤ W7.heap.size := Nat.le_trans le5_6u hgs6.size
  have hr5x6 := (hr5w.stay (grown_of_below hd6 none) le5_6 (fun k e => by cases e)).stay hgs6 le5_6u (fun k e => .inl (by injection e with e; rw [← e]; exact lt5))
  clear e6 t6 f6 hW7
  have HB7 := Lib.hid hb7
  have e7 : W7.cell? ⟨w.heap.size, 7, none⟩ = some (.slice oA7 on7 oc7) := blk_cell b7 7 _ rfl
  go_upto_region 9 with (go_at_call 121; (with_reducible refine (K7.out _ HB7.out).mono ?_); rintro en u7 ⟨nA7, nn7, nc7, rfl, hr7, hd7⟩; have g7 := (hd7.block w.heap.size (by omega)).trans b7; have y7 := (hd7.block (w.heap.size + 1) (by omega)).trans c7; have t7 := blk_cell g7 7 _ rfl; have f7 := blk_froz g7 7)
  obtain ⟨W8, hW8⟩ : ∃ W, W = u7.setCell ⟨w.heap.size, 7, none⟩ (.slice nA7 nn7 nc7) := ⟨_, rfl⟩
  rw [← hW8]
  have hz8 : w.heap.size + 2 ≤ W8.heap.size := by rw [hW8]; have := hd7.size; simp; omega
  have hgs7 : u7.grownBy W8 (some w.heap.size) := by rw [hW8]; exact grown_set u7 w.heap.size 7 _
  have b8 : W8.heap[w.heap.size]? = some (.cells #[.slice nA0 nn0 nc0, .slice nA1 nn1 nc1, .slice nA2 nn2 nc2, .slice nA3 nn3 nc3, .slice nA4 nn4 nc4, .slice nA5 nn5 nc5, .slice nA6 nn6 nc6, .slice nA7 nn7 nc7, .int .i64 x.maxBatch, .int .i64 x.budget] 36 (0, 0)) := by rw [hW8]; exact blk_set g7 7 _
  have c8 : W8.heap[w.heap.size + 1]? = some (.cells #[.slice none 0 0, .slice none 0 0, .slice none 0 0, .slice none 0 0, .slice none 0 0, .slice none 0 0, .slice none 0 0, .slice none 0 0, .int .i64 0, .int .i64 0] 36 (0, 0)) := (hgs7.block _ (by have := hd7.size; omega) (fun e => by injection e with e; omega)).trans y7
  have hb8 : Below w.heap.size w W8 := HB7.out.trans (⟨hgs7.os.trans hd7.os, hgs7.tape.trans hd7.tape, hgs7.output.trans hd7.output, Nat.le_trans hd7.size hgs7.size, fun k hk => (hgs7.block k (by have := hd7.size; have := HB7.out.size; omega) (fun e => by injection e with e; omega)).trans (hd7.block k (by have := HB7.out.size; omega))⟩)
  have lt7 : w.heap.size < W7.heap.size := Nat.lt_of_lt_of_le (by omega) (show w.heap.size + 2 ≤ W7.heap.size from by first | exact hz7 | exact Nat.le_of_eq hz7)
  have hr7w := hr7.stay hgs7 (Nat.le_refl _) (fun k e => .inl (by injection e with e; rw [← e]; exact lt7))
  have le7_8 : u7.heap.size ≤ W8.heap.size := hgs7.size
  have le0_7u : u0.heap.size ≤ u7.heap.size := Nat.le_trans le0_7 hd7.size
  have le0_8 : u0.heap.size ≤ W8.heap.size := Nat.le_trans le0_7u hgs7.size
  have hr0x7 := (hr0x6.stay (grown_of_below hd7 none) le0_7 (fun k e => by cases e)).stay hgs7 le0_7u (fun k e => .inl (by injection e with e; rw [← e]; exact lt0))
  have le1_7u : u1.heap.size ≤ u7.heap.size := Nat.le_trans le1_7 hd7.size
  have le1_8 : u1.heap.size ≤ W8.heap.size := Nat.le_trans le1_7u hgs7.size
  have hr1x7 := (hr1x6.stay (grown_of_below hd7 none) le1_7 (fun k e => by cases e)).stay hgs7 le1_7u (fun k e => .inl (by injection e with e; rw [← e]; exact lt1))
  have le2_7u : u2.heap.size ≤ u7.heap.size := Nat.le_trans le2_7 hd7.size
  have le2_8 : u2.heap.size ≤ W8.heap.size := Nat.le_trans le2_7u hgs7.size
  have hr2x7 := (hr2x6.stay (grown_of_below hd7 none) le2_7 (fun k e => by cases e)).stay hgs7 le2_7u (fun k e => .inl (by injection e with e; rw [← e]; exact lt2))
  have le3_7u : u3.heap.size ≤ u7.heap.size := Nat.le_trans le3_7 hd7.size
  have le3_8 : u3.heap.size ≤ W8.heap.size := Nat.le_trans le3_7u hgs7.size
  have hr3x7 := (hr3x6.stay (grown_of_below hd7 none) le3_7 (fun k e => by cases e)).stay hgs7 le3_7u (fun k e => .inl (by injection e with e; rw [← e]; exact lt3))
  have le4_7u : u4.heap.size ≤ u7.heap.size := Nat.le_trans le4_7 hd7.size
  have le4_8 : u4.heap.size ≤ W8.heap.size := Nat.le_trans le4_7u hgs7.size
  have hr4x7 := (hr4x6.stay (grown_of_below hd7 none) le4_7 (fun k e => by cases e)).stay hgs7 le4_7u (fun k e => .inl (by injection e with e; rw [← e]; exact lt4))
  have le5_7u : u5.heap.size ≤ u7.heap.size := Nat.le_trans le5_7 hd7.size
  have le5_8 : u5.heap.size ≤ W8.heap.size := Nat.le_trans le5_7u hgs7.size
  have hr5x7 := (hr5x6.stay (grown_of_below hd7 none) le5_7 (fun k e => by cases e)).stay hgs7 le5_7u (fun k e => .inl (by injection e with e; rw [← e]; exact lt5))
  have le6_7u : u6.heap.size ≤ u7.heap.size := Nat.le_trans le6_7 hd7.size
  have le6_8 : u6.heap.size ≤ W8.heap.size := Nat.le_trans le6_7u hgs7.size
  have hr6x7 := (hr6w.stay (grown_of_below hd7 none) le6_7 (fun k e => by cases e)).stay hgs7 le6_7u (fun k e => .inl (by injection e with e; rw [← e]; exact lt6))
  clear e7 t7 f7 hW8
  have s0 : W8.cell? ⟨w.heap.size, 0, none⟩ = some (.slice nA0 nn0 nc0) := blk_cell b8 0 _ rfl
  have z0 : W8.cell? ⟨w.heap.size + 1, 0, none⟩ = some _ := blk_cell c8 0 _ rfl
  have zf0 := blk_froz c8 0
  have s1 : W8.cell? ⟨w.heap.size, 1, none⟩ = some (.slice nA1 nn1 nc1) := blk_cell b8 1 _ rfl
  have z1 : W8.cell? ⟨w.heap.size + 1, 1, none⟩ = some _ := blk_cell c8 1 _ rfl
  have zf1 := blk_froz c8 1
  have s2 : W8.cell? ⟨w.heap.size, 2, none⟩ = some (.slice nA2 nn2 nc2) := blk_cell b8 2 _ rfl
  have z2 : W8.cell? ⟨w.heap.size + 1, 2, none⟩ = some _ := blk_cell c8 2 _ rfl
  have zf2 := blk_froz c8 2
  have s3 : W8.cell? ⟨w.heap.size, 3, none⟩ = some (.slice nA3 nn3 nc3) := blk_cell b8 3 _ rfl
  have z3 : W8.cell? ⟨w.heap.size + 1, 3, none⟩ = some _ := blk_cell c8 3 _ rfl
  have zf3 := blk_froz c8 3
  have s4 : W8.cell? ⟨w.heap.size, 4, none⟩ = some (.slice nA4 nn4 nc4) := blk_cell b8 4 _ rfl
  have z4 : W8.cell? ⟨w.heap.size + 1, 4, none⟩ = some _ := blk_cell c8 4 _ rfl
  have zf4 := blk_froz c8 4
  have s5 : W8.cell? ⟨w.heap.size, 5, none⟩ = some (.slice nA5 nn5 nc5) := blk_cell b8 5 _ rfl
  have z5 : W8.cell? ⟨w.heap.size + 1, 5, none⟩ = some _ := blk_cell c8 5 _ rfl
  have zf5 := blk_froz c8 5
  have s6 : W8.cell? ⟨w.heap.size, 6, none⟩ = some (.slice nA6 nn6 nc6) := blk_cell b8 6 _ rfl
  have z6 : W8.cell? ⟨w.heap.size + 1, 6, none⟩ = some _ := blk_cell c8 6 _ rfl
  have zf6 := blk_froz c8 6
  have s7 : W8.cell? ⟨w.heap.size, 7, none⟩ = some (.slice nA7 nn7 nc7) := blk_cell b8 7 _ rfl
  have z7 : W8.cell? ⟨w.heap.size + 1, 7, none⟩ = some _ := blk_cell c8 7 _ rfl
  have zf7 := blk_froz c8 7
  have s8 : W8.cell? ⟨w.heap.size, 8, none⟩ = some (.int .i64 x.maxBatch) := blk_cell b8 8 _ rfl
  have z8 : W8.cell? ⟨w.heap.size + 1, 8, none⟩ = some _ := blk_cell c8 8 _ rfl
  have zf8 := blk_froz c8 8
  have s9 : W8.cell? ⟨w.heap.size, 9, none⟩ = some (.int .i64 x.budget) := blk_cell b8 9 _ rfl
  have z9 : W8.cell? ⟨w.heap.size + 1, 9, none⟩ = some _ := blk_cell c8 9 _ rfl
  have zf9 := blk_froz c8 9
  go_wp2_with fail
  obtain ⟨X, hX⟩ : ∃ X, X = ((((((((((W8.setCell ⟨w.heap.size + 1, 0, none⟩ (.slice nA0 nn0 nc0)).setCell ⟨w.heap.size + 1, 1, none⟩ (.slice nA1 nn1 nc1)).setCell ⟨w.heap.size + 1, 2, none⟩ (.slice nA2 nn2 nc2)).setCell ⟨w.heap.size + 1, 3, none⟩ (.slice nA3 nn3 nc3)).setCell ⟨w.heap.size + 1, 4, none⟩ (.slice nA4 nn4 nc4)).setCell ⟨w.heap.size + 1, 5, none⟩ (.slice nA5 nn5 nc5)).setCell ⟨w.heap.size + 1, 6, none⟩ (.slice nA6 nn6 nc6)).setCell ⟨w.heap.size + 1, 7, none⟩ (.slice nA7 nn7 nc7)).setCell ⟨w.heap.size + 1, 8, none⟩ (.int .i64 x.maxBatch)).setCell ⟨w.heap.size + 1, 9, none⟩ (.int .i64 x.budget)) := ⟨_, rfl⟩
  have hgx : W8.grownBy X (some (w.heap.size + 1)) := by
    rw [hX]
    exact (((((((((grown_set _ (w.heap.size + 1) 0 _).trans (grown_set _ (w.heap.size + 1) 1 _)).trans (grown_set _ (w.heap.size + 1) 2 _)).trans (grown_set _ (w.heap.size + 1) 3 _)).trans (grown_set _ (w.heap.size + 1) 4 _)).trans (grown_set _ (w.heap.size + 1) 5 _)).trans (grown_set _ (w.heap.size + 1) 6 _)).trans (grown_set _ (w.heap.size + 1) 7 _)).trans (grown_set _ (w.heap.size + 1) 8 _)).trans (grown_set _ (w.heap.size + 1) 9 _)
  have k0 := c8
  have k1 : (W8.setCell ⟨w.heap.size + 1, 0, none⟩ (.slice nA0 nn0 nc0)).heap[w.heap.size + 1]? = some (.cells #[.slice nA0 nn0 nc0, .slice none 0 0, .slice none 0 0, .slice none 0 0, .slice none 0 0, .slice none 0 0, .slice none 0 0, .slice none 0 0, .int .i64 0, .int .i64 0] 36 (0, 0)) := blk_set k0 0 _
  have k2 : ((W8.setCell ⟨w.heap.size + 1, 0, none⟩ (.slice nA0 nn0 nc0)).setCell ⟨w.heap.size + 1, 1, none⟩ (.slice nA1 nn1 nc1)).heap[w.heap.size + 1]? = some (.cells #[.slice nA0 nn0 nc0, .slice nA1 nn1 nc1, .slice none 0 0, .slice none 0 0, .slice none 0 0, .slice none 0 0, .slice none 0 0, .slice none 0 0, .int .i64 0, .int .i64 0] 36 (0, 0)) := blk_set k1 1 _
  have k3 : (((W8.setCell ⟨w.heap.size + 1, 0, none⟩ (.slice nA0 nn0 nc0)).setCell ⟨w.heap.size + 1, 1, none⟩ (.slice nA1 nn1 nc1)).setCell ⟨w.heap.size + 1, 2, none⟩ (.slice nA2 nn2 nc2)).heap[w.heap.size + 1]? = some (.cells #[.slice nA0 nn0 nc0, .slice nA1 nn1 nc1, .slice nA2 nn2 nc2, .slice none 0 0, .slice none 0 0, .slice none 0 0, .slice none 0 0, .slice none 0 0, .int .i64 0, .int .i64 0] 36 (0, 0)) := blk_set k2 2 _
  have k4 : ((((W8.setCell ⟨w.heap.size + 1, 0, none⟩ (.slice nA0 nn0 nc0)).setCell ⟨w.heap.size + 1, 1, none⟩ (.slice nA1 nn1 nc1)).setCell ⟨w.heap.size + 1, 2, none⟩ (.slice nA2 nn2 nc2)).setCell ⟨w.heap.size + 1, 3, none⟩ (.slice nA3 nn3 nc3)).heap[w.heap.size + 1]? = some (.cells #[.slice nA0 nn0 nc0, .slice nA1 nn1 nc1, .slice nA2 nn2 nc2, .slice nA3 nn3 nc3, .slice none 0 0, .slice none 0 0, .slice none 0 0, .slice none 0 0, .int .i64 0, .int .i64 0] 36 (0, 0)) := blk_set k3 3 _
  have k5 : (((((W8.setCell ⟨w.heap.size + 1, 0, none⟩ (.slice nA0 nn0 nc0)).setCell ⟨w.heap.size + 1, 1, none⟩ (.slice nA1 nn1 nc1)).setCell ⟨w.heap.size + 1, 2, none⟩ (.slice nA2 nn2 nc2)).setCell ⟨w.heap.size + 1, 3, none⟩ (.slice nA3 nn3 nc3)).setCell ⟨w.heap.size + 1, 4, none⟩ (.slice nA4 nn4 nc4)).heap[w.heap.size + 1]? = some (.cells #[.slice nA0 nn0 nc0, .slice nA1 nn1 nc1, .slice nA2 nn2 nc2, .slice nA3 nn3 nc3, .slice nA4 nn4 nc4, .slice none 0 0, .slice none 0 0, .slice none 0 0, .int .i64 0, .int .i64 0] 36 (0, 0)) := blk_set k4 4 _
  have k6 : ((((((W8.setCell ⟨w.heap.size + 1, 0, none⟩ (.slice nA0 nn0 nc0)).setCell ⟨w.heap.size + 1, 1, none⟩ (.slice nA1 nn1 nc1)).setCell ⟨w.heap.size + 1, 2, none⟩ (.slice nA2 nn2 nc2)).setCell ⟨w.heap.size + 1, 3, none⟩ (.slice nA3 nn3 nc3)).setCell ⟨w.heap.size + 1, 4, none⟩ (.slice nA4 nn4 nc4)).setCell ⟨w.heap.size + 1, 5, none⟩ (.slice nA5 nn5 nc5)).heap[w.heap.size + 1]? = some (.cells #[.slice nA0 nn0 nc0, .slice nA1 nn1 nc1, .slice nA2 nn2 nc2, .slice nA3 nn3 nc3, .slice nA4 nn4 nc4, .slice nA5 nn5 nc5, .slice none 0 0, .slice none 0 0, .int .i64 0, .int .i64 0] 36 (0, 0)) := blk_set k5 5 _
  have k7 : (((((((W8.setCell ⟨w.heap.size + 1, 0, none⟩ (.slice nA0 nn0 nc0)).setCell ⟨w.heap.size + 1, 1, none⟩ (.slice nA1 nn1 nc1)).setCell ⟨w.heap.size + 1, 2, none⟩ (.slice nA2 nn2 nc2)).setCell ⟨w.heap.size + 1, 3, none⟩ (.slice nA3 nn3 nc3)).setCell ⟨w.heap.size + 1, 4, none⟩ (.slice nA4 nn4 nc4)).setCell ⟨w.heap.size + 1, 5, none⟩ (.slice nA5 nn5 nc5)).setCell ⟨w.heap.size + 1, 6, none⟩ (.slice nA6 nn6 nc6)).heap[w.heap.size + 1]? = some (.cells #[.slice nA0 nn0 nc0, .slice nA1 nn1 nc1, .slice nA2 nn2 nc2, .slice nA3 nn3 nc3, .slice nA4 nn4 nc4, .slice nA5 nn5 nc5, .slice nA6 nn6 nc6, .slice none 0 0, .int .i64 0, .int .i64 0] 36 (0, 0)) := blk_set k6 6 _
  have k8 : ((((((((W8.setCell ⟨w.heap.size + 1, 0, none⟩ (.slice nA0 nn0 nc0)).setCell ⟨w.heap.size + 1, 1, none⟩ (.slice nA1 nn1 nc1)).setCell ⟨w.heap.size + 1, 2, none⟩ (.slice nA2 nn2 nc2)).setCell ⟨w.heap.size + 1, 3, none⟩ (.slice nA3 nn3 nc3)).setCell ⟨w.heap.size + 1, 4, none⟩ (.slice nA4 nn4 nc4)).setCell ⟨w.heap.size + 1, 5, none⟩ (.slice nA5 nn5 nc5)).setCell ⟨w.heap.size + 1, 6, none⟩ (.slice nA6 nn6 nc6)).setCell ⟨w.heap.size + 1, 7, none⟩ (.slice nA7 nn7 nc7)).heap[w.heap.size + 1]? = some (.cells #[.slice nA0 nn0 nc0, .slice nA1 nn1 nc1, .slice nA2 nn2 nc2, .slice nA3 nn3 nc3, .slice nA4 nn4 nc4, .slice nA5 nn5 nc5, .slice nA6 nn6 nc6, .slice nA7 nn7 nc7, .int .i64 0, .int .i64 0] 36 (0, 0)) := blk_set k7 7 _
  have k9 : (((((((((W8.setCell ⟨w.heap.size + 1, 0, none⟩ (.slice nA0 nn0 nc0)).setCell ⟨w.heap.size + 1, 1, none⟩ (.slice nA1 nn1 nc1)).setCell ⟨w.heap.size + 1, 2, none⟩ (.slice nA2 nn2 nc2)).setCell ⟨w.heap.size + 1, 3, none⟩ (.slice nA3 nn3 nc3)).setCell ⟨w.heap.size + 1, 4, none⟩ (.slice nA4 nn4 nc4)).setCell ⟨w.heap.size + 1, 5, none⟩ (.slice nA5 nn5 nc5)).setCell ⟨w.heap.size + 1, 6, none⟩ (.slice nA6 nn6 nc6)).setCell ⟨w.heap.size + 1, 7, none⟩ (.slice nA7 nn7 nc7)).setCell ⟨w.heap.size + 1, 8, none⟩ (.int .i64 x.maxBatch)).heap[w.heap.size + 1]? = some (.cells #[.slice nA0 nn0 nc0, .slice nA1 nn1 nc1, .slice nA2 nn2 nc2, .slice nA3 nn3 nc3, .slice nA4 nn4 nc4, .slice nA5 nn5 nc5, .slice nA6 nn6 nc6, .slice nA7 nn7 nc7, .int .i64 x.maxBatch, .int .i64 0] 36 (0, 0)) := blk_set k8 8 _
  have k10 : ((((((((((W8.setCell ⟨w.heap.size + 1, 0, none⟩ (.slice nA0 nn0 nc0)).setCell ⟨w.heap.size + 1, 1, none⟩ (.slice nA1 nn1 nc1)).setCell ⟨w.heap.size + 1, 2, none⟩ (.slice nA2 nn2 nc2)).setCell ⟨w.heap.size + 1, 3, none⟩ (.slice nA3 nn3 nc3)).setCell ⟨w.heap.size + 1, 4, none⟩ (.slice nA4 nn4 nc4)).setCell ⟨w.heap.size + 1, 5, none⟩ (.slice nA5 nn5 nc5)).setCell ⟨w.heap.size + 1, 6, none⟩ (.slice nA6 nn6 nc6)).setCell ⟨w.heap.size + 1, 7, none⟩ (.slice nA7 nn7 nc7)).setCell ⟨w.heap.size + 1, 8, none⟩ (.int .i64 x.maxBatch)).setCell ⟨w.heap.size + 1, 9, none⟩ (.int .i64 x.budget)).heap[w.heap.size + 1]? = some (.cells #[.slice nA0 nn0 nc0, .slice nA1 nn1 nc1, .slice nA2 nn2 nc2, .slice nA3 nn3 nc3, .slice nA4 nn4 nc4, .slice nA5 nn5 nc5, .slice nA6 nn6 nc6, .slice nA7 nn7 nc7, .int .i64 x.maxBatch, .int .i64 x.budget] 36 (0, 0)) := blk_set k9 9 _
  have hcx : X.heap[w.heap.size + 1]? = some (.cells #[.slice nA0 nn0 nc0, .slice nA1 nn1 nc1, .slice nA2 nn2 nc2, .slice nA3 nn3 nc3, .slice nA4 nn4 nc4, .slice nA5 nn5 nc5, .slice nA6 nn6 nc6, .slice nA7 nn7 nc7, .int .i64 x.maxBatch, .int .i64 x.budget] 36 (0, 0)) := by rw [hX]; exact k10
  have hbx : Below w.heap.size w X := hb8.trans ⟨hgx.os, hgx.tape, hgx.output, hgx.size, fun k hk => hgx.block k (by omega) (fun e => by injection e with e; omega)⟩
  have q0 := blk_cell hcx 0 _ rfl
  have q1 := blk_cell hcx 1 _ rfl
  have q2 := blk_cell hcx 2 _ rfl
  have q3 := blk_cell hcx 3 _ rfl
  have q4 := blk_cell hcx 4 _ rfl
  have q5 := blk_cell hcx 5 _ rfl
  have q6 := blk_cell hcx 6 _ rfl
  have q7 := blk_cell hcx 7 _ rfl
  have q8 := blk_cell hcx 8 _ rfl
  have q9 := blk_cell hcx 9 _ rfl
  rw [← hX]
  refine bodyPost_ret (v := .agg #[.slice nA0 nn0 nc0, .slice nA1 nn1 nc1, .slice nA2 nn2 nc2, .slice nA3 nn3 nc3, .slice nA4 nn4 nc4, .slice nA5 nn5 nc5, .slice nA6 nn6 nc6, .slice nA7 nn7 nc7, .int .i64 x.maxBatch, .int .i64 x.budget]) (by simp [results, Tryz.results73, go_sem, q0, q1, q2, q3, q4, q5, q6, q7, q8, q9]) rfl ?_
  have lt10 : w.heap.size + 1 < W0.heap.size := Nat.lt_of_lt_of_le (Nat.lt_succ_self _) (show w.heap.size + 2 ≤ W0.heap.size from by first | exact hz0 | exact Nat.le_of_eq hz0)
  have hq0 := (hr0x7.stay hgx le0_8 (fun k e => .inl (by injection e with e; rw [← e]; exact lt10))).widen (a2 := w.heap.size) (b2 := X.heap.size) (Nat.le_of_lt lt0) (Nat.le_trans le0_8 hgx.size)
  have lt11 : w.heap.size + 1 < W1.heap.size := Nat.lt_of_lt_of_le (Nat.lt_succ_self _) (show w.heap.size + 2 ≤ W1.heap.size from by first | exact hz1 | exact Nat.le_of_eq hz1)
  have hq1 := (hr1x7.stay hgx le1_8 (fun k e => .inl (by injection e with e; rw [← e]; exact lt11))).widen (a2 := w.heap.size) (b2 := X.heap.size) (Nat.le_of_lt lt1) (Nat.le_trans le1_8 hgx.size)
  have lt12 : w.heap.size + 1 < W2.heap.size := Nat.lt_of_lt_of_le (Nat.lt_succ_self _) (show w.heap.size + 2 ≤ W2.heap.size from by first | exact hz2 | exact Nat.le_of_eq hz2)
  have hq2 := (hr2x7.stay hgx le2_8 (fun k e => .inl (by injection e with e; rw [← e]; exact lt12))).widen (a2 := w.heap.size) (b2 := X.heap.size) (Nat.le_of_lt lt2) (Nat.le_trans le2_8 hgx.size)
  have lt13 : w.heap.size + 1 < W3.heap.size := Nat.lt_of_lt_of_le (Nat.lt_succ_self _) (show w.heap.size + 2 ≤ W3.heap.size from by first | exact hz3 | exact Nat.le_of_eq hz3)
  have hq3 := (hr3x7.stay hgx le3_8 (fun k e => .inl (by injection e with e; rw [← e]; exact lt13))).widen (a2 := w.heap.size) (b2 := X.heap.size) (Nat.le_of_lt lt3) (Nat.le_trans le3_8 hgx.size)
  have lt14 : w.heap.size + 1 < W4.heap.size := Nat.lt_of_lt_of_le (Nat.lt_succ_self _) (show w.heap.size + 2 ≤ W4.heap.size from by first | exact hz4 | exact Nat.le_of_eq hz4)
  have hq4 := (hr4x7.stay hgx le4_8 (fun k e => .inl (by injection e with e; rw [← e]; exact lt14))).widen (a2 := w.heap.size) (b2 := X.heap.size) (Nat.le_of_lt lt4) (Nat.le_trans le4_8 hgx.size)
  have lt15 : w.heap.size + 1 < W5.heap.size := Nat.lt_of_lt_of_le (Nat.lt_succ_self _) (show w.heap.size + 2 ≤ W5.heap.size from by first | exact hz5 | exact Nat.le_of_eq hz5)
  have hq5 := (hr5x7.stay hgx le5_8 (fun k e => .inl (by injection e with e; rw [← e]; exact lt15))).widen (a2 := w.heap.size) (b2 := X.heap.size) (Nat.le_of_lt lt5) (Nat.le_trans le5_8 hgx.size)
  have lt16 : w.heap.size + 1 < W6.heap.size := Nat.lt_of_lt_of_le (Nat.lt_succ_self _) (show w.heap.size + 2 ≤ W6.heap.size from by first | exact hz6 | exact Nat.le_of_eq hz6)
  have hq6 := (hr6x7.stay hgx le6_8 (fun k e => .inl (by injection e with e; rw [← e]; exact lt16))).widen (a2 := w.heap.size) (b2 := X.heap.size) (Nat.le_of_lt lt6) (Nat.le_trans le6_8 hgx.size)
  have lt17 : w.heap.size + 1 < W7.heap.size := Nat.lt_of_lt_of_le (Nat.lt_succ_self _) (show w.heap.size + 2 ≤ W7.heap.size from by first | exact hz7 | exact Nat.le_of_eq hz7)
  have hq7 := (hr7w.stay hgx le7_8 (fun k e => .inl (by injection e with e; rw [← e]; exact lt17))).widen (a2 := w.heap.size) (b2 := X.heap.size) (Nat.le_of_lt lt7) (Nat.le_trans le7_8 hgx.size)
  exact ⟨_, rfl, rfl, fun w2 B2 hs2 hb2 => ⟨_, _, _, _, _, _, _, _, rfl, hq0 w2 B2 hs2 hb2, hq1 w2 B2 hs2 hb2, hq2 w2 B2 hs2 hb2, hq3 w2 B2 hs2 hb2, hq4 w2 B2 hs2 hb2, hq5 w2 B2 hs2 hb2, hq6 w2 B2 hs2 hb2, hq7 w2 B2 hs2 hb2, h1, h2⟩, hbx⟩
end Go.Proofs.YtldgjahpmlafgaaGreat
