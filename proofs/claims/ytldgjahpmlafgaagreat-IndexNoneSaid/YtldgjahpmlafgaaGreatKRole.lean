/- Copies of roles. -/
import Derived.Test.YtldgjahpmlafgaaGreatKEach
namespace Go.Proofs.YtldgjahpmlafgaaGreat
open Go.RowKit
set_option maxRecDepth 100000 in
set_option maxHeartbeats 8000000 in
theorem ke_role {w : World} {B : Nat} {cs : List Value} {x : RoleD} (h : RoleV B w cs x) (hB : B ≤ w.heap.size) (hs0 : x.grants.length ≤ 1000000) (hs1 : x.actions.length ≤ 1000000) (hx0_0 : ∀ z ∈ x.grants, z.keys.length ≤ 1000000) : Calls Tryz.prog 120 #[.agg cs.toArray] w (RetEl 6 RoleV w x) := by
  obtain ⟨v0, v1, rfl, h1, h2, r0, r1, h3⟩ := h
  obtain ⟨oA0, on0, oc0, rfl, _⟩ := r0.parts
  obtain ⟨oA1, on1, oc1, rfl, _⟩ := r1.parts
  obtain ⟨W0, hW0⟩ : ∃ W, W = (w.alloc (.cells #[.int .i64 x.id, .string (strL x.name), .slice oA0 on0 oc0, .slice oA1 on1 oc1, .int .i64 x.quota, .bool x.audit] 183)).alloc (.cells #[.int .i64 0, .string ⟨#[]⟩, .slice none 0 0, .slice none 0 0, .int .i64 0, .bool false] 183) := ⟨_, rfl⟩
  have hb0 : Below w.heap.size w W0 := by rw [hW0]; exact ((Below.refl w.heap.size w).alloc (by simp) _).alloc (by simp) _
  have hz0 : w.heap.size + 2 = W0.heap.size := by rw [hW0]; simp
  have b0 : W0.heap[w.heap.size]? = some (.cells #[.int .i64 x.id, .string (strL x.name), .slice oA0 on0 oc0, .slice oA1 on1 oc1, .int .i64 x.quota, .bool x.audit] 183 (0, 0)) := by
    rw [hW0]
    exact ((grown_alloc _ _ none).block _ (by simp) (by simp)).trans (heap_alloc_new _ _)
  have c0 : W0.heap[w.heap.size + 1]? = some (.cells #[.int .i64 0, .string ⟨#[]⟩, .slice none 0 0, .slice none 0 0, .int .i64 0, .bool false] 183 (0, 0)) := by
    rw [hW0]
    rw [show w.heap.size + 1 = (w.alloc (.cells #[.int .i64 x.id, .string (strL x.name), .slice oA0 on0 oc0, .slice oA1 on1 oc1, .int .i64 x.quota, .bool x.audit] 183)).heap.size by simp]
    exact heap_alloc_new _ _
  have HW0 := Lib.hid hW0
  clear hW0
  have K0 : Hid (∀ W, Below w.heap.size w W → Calls Tryz.prog 164 #[.slice oA0 on0 oc0, .func (.func 165) #[] #[]] W (RetClo 4 GrantV W (x.grants))) := Lib.hid fun W hb => ea_grant (r0.below kept_grant (hb.mono hB)) (Nat.le_trans hB hb.size) hs0 hx0_0
  have K1 : Hid (∀ W, Below w.heap.size w W → Calls Tryz.prog 159 #[.slice oA1 on1 oc1] W (RetClo 1 I64V W (x.actions))) := Lib.hid fun W hb => kl_int (r1.below kept_int (hb.mono hB)) (Nat.le_trans hB hb.size) hs1
  clear r0 r1
  go_enter Tryz.func120, Tryz.ntmps120
  go_upto_region 1 with fail
  rw [← HW0.out]
  have HB0 := Lib.hid hb0
  have e0 : W0.cell? ⟨w.heap.size, 2, none⟩ = some (.slice oA0 on0 oc0) := blk_cell b0 2 _ rfl
  go_upto_region 2 with (go_at_call 164; (with_reducible refine (K0.out _ HB0.out).mono ?_); rintro en u0 ⟨nA0, nn0, nc0, rfl, hr0, hd0⟩; have g0 := (hd0.block w.heap.size (by omega)).trans b0; have y0 := (hd0.block (w.heap.size + 1) (by omega)).trans c0; have t0 := blk_cell g0 2 _ rfl; have f0 := blk_froz g0 2)
  obtain ⟨W1, hW1⟩ : ∃ W, W = u0.setCell ⟨w.heap.size, 2, none⟩ (.slice nA0 nn0 nc0) := ⟨_, rfl⟩
  rw [← hW1]
  have hz1 : w.heap.size + 2 ≤ W1.heap.size := by rw [hW1]; have := hd0.size; simp; omega
  have hgs0 : u0.grownBy W1 (some w.heap.size) := by rw [hW1]; exact grown_set u0 w.heap.size 2 _
  have b1 : W1.heap[w.heap.size]? = some (.cells #[.int .i64 x.id, .string (strL x.name), .slice nA0 nn0 nc0, .slice oA1 on1 oc1, .int .i64 x.quota, .bool x.audit] 183 (0, 0)) := by rw [hW1]; exact blk_set g0 2 _
  have c1 : W1.heap[w.heap.size + 1]? = some (.cells #[.int .i64 0, .string ⟨#[]⟩, .slice none 0 0, .slice none 0 0, .int .i64 0, .bool false] 183 (0, 0)) := (hgs0.block _ (by have := hd0.size; omega) (fun e => by injection e with e; omega)).trans y0
  have hb1 : Below w.heap.size w W1 := HB0.out.trans (⟨hgs0.os.trans hd0.os, hgs0.tape.trans hd0.tape, hgs0.output.trans hd0.output, Nat.le_trans hd0.size hgs0.size, fun k hk => (hgs0.block k (by have := hd0.size; have := HB0.out.size; omega) (fun e => by injection e with e; omega)).trans (hd0.block k (by have := HB0.out.size; omega))⟩)
  have lt0 : w.heap.size < W0.heap.size := Nat.lt_of_lt_of_le (by omega) (show w.heap.size + 2 ≤ W0.heap.size from by first | exact hz0 | exact Nat.le_of_eq hz0)
  have hr0w := hr0.stay hgs0 (Nat.le_refl _) (fun k e => .inl (by injection e with e; rw [← e]; exact lt0))
  have le0_1 : u0.heap.size ≤ W1.heap.size := hgs0.size
  clear e0 t0 f0 hW1
  have HB1 := Lib.hid hb1
  have e1 : W1.cell? ⟨w.heap.size, 3, none⟩ = some (.slice oA1 on1 oc1) := blk_cell b1 3 _ rfl
  go_upto_region 3 with (go_at_call 159; (with_reducible refine (K1.out _ HB1.out).mono ?_); rintro en u1 ⟨nA1, nn1, nc1, rfl, hr1, hd1⟩; have g1 := (hd1.block w.heap.size (by omega)).trans b1; have y1 := (hd1.block (w.heap.size + 1) (by omega)).trans c1; have t1 := blk_cell g1 3 _ rfl; have f1 := blk_froz g1 3)
  obtain ⟨W2, hW2⟩ : ∃ W, W = u1.setCell ⟨w.heap.size, 3, none⟩ (.slice nA1 nn1 nc1) := ⟨_, rfl⟩
  rw [← hW2]
  have hz2 : w.heap.size + 2 ≤ W2.heap.size := by rw [hW2]; have := hd1.size; simp; omega
  have hgs1 : u1.grownBy W2 (some w.heap.size) := by rw [hW2]; exact grown_set u1 w.heap.size 3 _
  have b2 : W2.heap[w.heap.size]? = some (.cells #[.int .i64 x.id, .string (strL x.name), .slice nA0 nn0 nc0, .slice nA1 nn1 nc1, .int .i64 x.quota, .bool x.audit] 183 (0, 0)) := by rw [hW2]; exact blk_set g1 3 _
  have c2 : W2.heap[w.heap.size + 1]? = some (.cells #[.int .i64 0, .string ⟨#[]⟩, .slice none 0 0, .slice none 0 0, .int .i64 0, .bool false] 183 (0, 0)) := (hgs1.block _ (by have := hd1.size; omega) (fun e => by injection e with e; omega)).trans y1
  have hb2 : Below w.heap.size w W2 := HB1.out.trans (⟨hgs1.os.trans hd1.os, hgs1.tape.trans hd1.tape, hgs1.output.trans hd1.output, Nat.le_trans hd1.size hgs1.size, fun k hk => (hgs1.block k (by have := hd1.size; have := HB1.out.size; omega) (fun e => by injection e with e; omega)).trans (hd1.block k (by have := HB1.out.size; omega))⟩)
  have lt1 : w.heap.size < W1.heap.size := Nat.lt_of_lt_of_le (by omega) (show w.heap.size + 2 ≤ W1.heap.size from by first | exact hz1 | exact Nat.le_of_eq hz1)
  have hr1w := hr1.stay hgs1 (Nat.le_refl _) (fun k e => .inl (by injection e with e; rw [← e]; exact lt1))
  have le1_2 : u1.heap.size ≤ W2.heap.size := hgs1.size
  have le0_1u : u0.heap.size ≤ u1.heap.size := Nat.le_trans le0_1 hd1.size
  have le0_2 : u0.heap.size ≤ W2.heap.size := Nat.le_trans le0_1u hgs1.size
  have hr0x1 := (hr0w.stay (grown_of_below hd1 none) le0_1 (fun k e => by cases e)).stay hgs1 le0_1u (fun k e => .inl (by injection e with e; rw [← e]; exact lt0))
  clear e1 t1 f1 hW2
  have s0 : W2.cell? ⟨w.heap.size, 0, none⟩ = some (.int .i64 x.id) := blk_cell b2 0 _ rfl
  have z0 : W2.cell? ⟨w.heap.size + 1, 0, none⟩ = some _ := blk_cell c2 0 _ rfl
  have zf0 := blk_froz c2 0
  have s1 : W2.cell? ⟨w.heap.size, 1, none⟩ = some (.string (strL x.name)) := blk_cell b2 1 _ rfl
  have z1 : W2.cell? ⟨w.heap.size + 1, 1, none⟩ = some _ := blk_cell c2 1 _ rfl
  have zf1 := blk_froz c2 1
  have s2 : W2.cell? ⟨w.heap.size, 2, none⟩ = some (.slice nA0 nn0 nc0) := blk_cell b2 2 _ rfl
  have z2 : W2.cell? ⟨w.heap.size + 1, 2, none⟩ = some _ := blk_cell c2 2 _ rfl
  have zf2 := blk_froz c2 2
  have s3 : W2.cell? ⟨w.heap.size, 3, none⟩ = some (.slice nA1 nn1 nc1) := blk_cell b2 3 _ rfl
  have z3 : W2.cell? ⟨w.heap.size + 1, 3, none⟩ = some _ := blk_cell c2 3 _ rfl
  have zf3 := blk_froz c2 3
  have s4 : W2.cell? ⟨w.heap.size, 4, none⟩ = some (.int .i64 x.quota) := blk_cell b2 4 _ rfl
  have z4 : W2.cell? ⟨w.heap.size + 1, 4, none⟩ = some _ := blk_cell c2 4 _ rfl
  have zf4 := blk_froz c2 4
  have s5 : W2.cell? ⟨w.heap.size, 5, none⟩ = some (.bool x.audit) := blk_cell b2 5 _ rfl
  have z5 : W2.cell? ⟨w.heap.size + 1, 5, none⟩ = some _ := blk_cell c2 5 _ rfl
  have zf5 := blk_froz c2 5
  go_wp2_with fail
  obtain ⟨X, hX⟩ : ∃ X, X = ((((((W2.setCell ⟨w.heap.size + 1, 0, none⟩ (.int .i64 x.id)).setCell ⟨w.heap.size + 1, 1, none⟩ (.string (strL x.name))).setCell ⟨w.heap.size + 1, 2, none⟩ (.slice nA0 nn0 nc0)).setCell ⟨w.heap.size + 1, 3, none⟩ (.slice nA1 nn1 nc1)).setCell ⟨w.heap.size + 1, 4, none⟩ (.int .i64 x.quota)).setCell ⟨w.heap.size + 1, 5, none⟩ (.bool x.audit)) := ⟨_, rfl⟩
  have hgx : W2.grownBy X (some (w.heap.size + 1)) := by
    rw [hX]
    exact (((((grown_set _ (w.heap.size + 1) 0 _).trans (grown_set _ (w.heap.size + 1) 1 _)).trans (grown_set _ (w.heap.size + 1) 2 _)).trans (grown_set _ (w.heap.size + 1) 3 _)).trans (grown_set _ (w.heap.size + 1) 4 _)).trans (grown_set _ (w.heap.size + 1) 5 _)
  have k0 := c2
  have k1 : (W2.setCell ⟨w.heap.size + 1, 0, none⟩ (.int .i64 x.id)).heap[w.heap.size + 1]? = some (.cells #[.int .i64 x.id, .string ⟨#[]⟩, .slice none 0 0, .slice none 0 0, .int .i64 0, .bool false] 183 (0, 0)) := blk_set k0 0 _
  have k2 : ((W2.setCell ⟨w.heap.size + 1, 0, none⟩ (.int .i64 x.id)).setCell ⟨w.heap.size + 1, 1, none⟩ (.string (strL x.name))).heap[w.heap.size + 1]? = some (.cells #[.int .i64 x.id, .string (strL x.name), .slice none 0 0, .slice none 0 0, .int .i64 0, .bool false] 183 (0, 0)) := blk_set k1 1 _
  have k3 : (((W2.setCell ⟨w.heap.size + 1, 0, none⟩ (.int .i64 x.id)).setCell ⟨w.heap.size + 1, 1, none⟩ (.string (strL x.name))).setCell ⟨w.heap.size + 1, 2, none⟩ (.slice nA0 nn0 nc0)).heap[w.heap.size + 1]? = some (.cells #[.int .i64 x.id, .string (strL x.name), .slice nA0 nn0 nc0, .slice none 0 0, .int .i64 0, .bool false] 183 (0, 0)) := blk_set k2 2 _
  have k4 : ((((W2.setCell ⟨w.heap.size + 1, 0, none⟩ (.int .i64 x.id)).setCell ⟨w.heap.size + 1, 1, none⟩ (.string (strL x.name))).setCell ⟨w.heap.size + 1, 2, none⟩ (.slice nA0 nn0 nc0)).setCell ⟨w.heap.size + 1, 3, none⟩ (.slice nA1 nn1 nc1)).heap[w.heap.size + 1]? = some (.cells #[.int .i64 x.id, .string (strL x.name), .slice nA0 nn0 nc0, .slice nA1 nn1 nc1, .int .i64 0, .bool false] 183 (0, 0)) := blk_set k3 3 _
  have k5 : (((((W2.setCell ⟨w.heap.size + 1, 0, none⟩ (.int .i64 x.id)).setCell ⟨w.heap.size + 1, 1, none⟩ (.string (strL x.name))).setCell ⟨w.heap.size + 1, 2, none⟩ (.slice nA0 nn0 nc0)).setCell ⟨w.heap.size + 1, 3, none⟩ (.slice nA1 nn1 nc1)).setCell ⟨w.heap.size + 1, 4, none⟩ (.int .i64 x.quota)).heap[w.heap.size + 1]? = some (.cells #[.int .i64 x.id, .string (strL x.name), .slice nA0 nn0 nc0, .slice nA1 nn1 nc1, .int .i64 x.quota, .bool false] 183 (0, 0)) := blk_set k4 4 _
  have k6 : ((((((W2.setCell ⟨w.heap.size + 1, 0, none⟩ (.int .i64 x.id)).setCell ⟨w.heap.size + 1, 1, none⟩ (.string (strL x.name))).setCell ⟨w.heap.size + 1, 2, none⟩ (.slice nA0 nn0 nc0)).setCell ⟨w.heap.size + 1, 3, none⟩ (.slice nA1 nn1 nc1)).setCell ⟨w.heap.size + 1, 4, none⟩ (.int .i64 x.quota)).setCell ⟨w.heap.size + 1, 5, none⟩ (.bool x.audit)).heap[w.heap.size + 1]? = some (.cells #[.int .i64 x.id, .string (strL x.name), .slice nA0 nn0 nc0, .slice nA1 nn1 nc1, .int .i64 x.quota, .bool x.audit] 183 (0, 0)) := blk_set k5 5 _
  have hcx : X.heap[w.heap.size + 1]? = some (.cells #[.int .i64 x.id, .string (strL x.name), .slice nA0 nn0 nc0, .slice nA1 nn1 nc1, .int .i64 x.quota, .bool x.audit] 183 (0, 0)) := by rw [hX]; exact k6
  have hbx : Below w.heap.size w X := hb2.trans ⟨hgx.os, hgx.tape, hgx.output, hgx.size, fun k hk => hgx.block k (by omega) (fun e => by injection e with e; omega)⟩
  have q0 := blk_cell hcx 0 _ rfl
  have q1 := blk_cell hcx 1 _ rfl
  have q2 := blk_cell hcx 2 _ rfl
  have q3 := blk_cell hcx 3 _ rfl
  have q4 := blk_cell hcx 4 _ rfl
  have q5 := blk_cell hcx 5 _ rfl
  rw [← hX]
  refine bodyPost_ret (v := .agg #[.int .i64 x.id, .string (strL x.name), .slice nA0 nn0 nc0, .slice nA1 nn1 nc1, .int .i64 x.quota, .bool x.audit]) (by simp [results, Tryz.results120, go_sem, q0, q1, q2, q3, q4, q5]) rfl ?_
  have lt10 : w.heap.size + 1 < W0.heap.size := Nat.lt_of_lt_of_le (Nat.lt_succ_self _) (show w.heap.size + 2 ≤ W0.heap.size from by first | exact hz0 | exact Nat.le_of_eq hz0)
  have hq0 := (hr0x1.stay hgx le0_2 (fun k e => .inl (by injection e with e; rw [← e]; exact lt10))).widen (a2 := w.heap.size) (b2 := X.heap.size) (Nat.le_of_lt lt0) (Nat.le_trans le0_2 hgx.size)
  have lt11 : w.heap.size + 1 < W1.heap.size := Nat.lt_of_lt_of_le (Nat.lt_succ_self _) (show w.heap.size + 2 ≤ W1.heap.size from by first | exact hz1 | exact Nat.le_of_eq hz1)
  have hq1 := (hr1w.stay hgx le1_2 (fun k e => .inl (by injection e with e; rw [← e]; exact lt11))).widen (a2 := w.heap.size) (b2 := X.heap.size) (Nat.le_of_lt lt1) (Nat.le_trans le1_2 hgx.size)
  exact ⟨_, rfl, rfl, fun w2 B2 hs2 hb2 => ⟨_, _, rfl, h1, h2, hq0 w2 B2 hs2 hb2, hq1 w2 B2 hs2 hb2, h3⟩, hbx⟩
theorem infoK_role : (Tryz.prog.info? 183).map (fun i => (i.zero.map (fun z => z.cells.size), i.size, i.bytes)) = some (some 6, 6, 88) := by kernel_rfl
set_option maxRecDepth 100000 in
set_option maxHeartbeats 8000000 in
theorem ea_role {w : World} {B : Nat} {v : Value} {xs : List RoleD} (h : RowV 6 RoleV B w v xs) (hB : B ≤ w.heap.size) (hn : xs.length ≤ 1000000) (hs0 : ∀ x ∈ xs, x.grants.length ≤ 1000000) (hs1 : ∀ x ∈ xs, x.actions.length ≤ 1000000) (hs2 : ∀ x ∈ xs, ∀ z ∈ x.grants, z.keys.length ≤ 1000000) : Calls Tryz.prog 119 #[v, .func (.func 120) #[] #[]] w (RetClo 6 RoleV w xs) := by
  obtain ⟨i0, z0, hi, hz, hy1, hy2, hzs⟩ := infoK_parts infoK_role
  obtain ⟨A, n, c, rfl, hnx, hnc, hcm⟩ := h.parts
  have hn2 : n ≤ 1000000 := by have := hnx.out; omega
  have hmk : ∀ u : World, (Instr.makeSlice 33 (.int .i64 (n : Int)) (.int .i64 (n : Int))).run Tryz.prog u = .ok (.slice (some ⟨u.heap.size, 0, none⟩) n n) (u.alloc (.cells (madeCells z0.cells (n * 6)) 183)) := fun u => by
    have h := run_make (P := Tryz.prog) u 33 183 i0 z0 Tryz.underlying33 hi hz .i64 .i64 (n : Int) (n : Int) (by omega) (Int.le_refl _) (by rw [hy2]; omega) (by omega)
    simpa [hy1] using h
  have I0 : Hid (EacI 6 RoleV 183 w (w.alloc (.cells (madeCells z0.cells (n * 6)) 183)) xs n 0 [] (madeCells z0.cells (n * 6)).toList) := Lib.hid
    ⟨⟨by simp [madeCells], .inr ⟨w.heap.size, n, _, rfl, Nat.le_refl _, heap_alloc_new w _, Nat.le_refl _, by unfold maxLen; omega, by simp [madeCells], by rw [List.take_of_length_le (by simp [madeCells])]⟩⟩, rfl, fun l hl => (by cases hl), fun i l j u h1 _ => (by simp at h1), fun i l x h1 _ => (by simp at h1), (Below.refl w.heap.size w).alloc (Nat.le_refl _) _⟩
  have H := Lib.hid h
  have HNX := hnx
  obtain ⟨ZZ, hZZ⟩ : ∃ ZZ, ZZ = madeCells z0.cells (n * 6) := ⟨_, rfl⟩
  rw [← hZZ] at hmk I0
  clear hZZ
  have HS0 := Lib.hid hs0
  have HS1 := Lib.hid hs1
  have HS2 := Lib.hid hs2
  clear hi hz hy1 hy2 hzs h hs0 hs1 hs2 hnx
  go_enter Tryz.func119, Tryz.ntmps119
  go_wp2_with fail
  go_loopw [13] (fun i W => ∃ (k : Nat) (cl : List (List Value)) (ys : List Value), k ≤ n ∧ i = .int .i64 (k : Int) ∧ EacI 6 RoleV 183 w W xs n k cl ys) (fun i _ => n - (intOf i).toNat)
  case atStart => exact ⟨0, [], _, Nat.zero_le _, rfl, I0.out⟩
  case round =>
    obtain ⟨k, cl, ys, hk, rfl, hI⟩ := hrel
    have HI := Lib.hid hI
    clear hI hmk I0
    by_cases hlt : k < n
    · have j1 : (k : Int) < (n : Int) := by omega
      have j2 : (k : Int) < (c : Int) := by omega
      have j3 : (0 : Int) ≤ (k : Int) := by omega
      have hx : xs[k]? = some (xs[k]'(by have := HNX.out; omega)) := List.getElem?_eq_getElem _
      obtain ⟨x, hxe⟩ : ∃ x, x = xs[k]'(by have := HNX.out; omega) := ⟨_, rfl⟩
      rw [← hxe] at hx
      clear hxe
      have HX := Lib.hid hx
      obtain ⟨_, _, _, eA, _, _, _, hrow⟩ := H.out
      injection eA with eA1 eA2 eA3
      subst eA1 eA2 eA3
      obtain ⟨b, o, hAe, hrow2⟩ := hrow.resolve_left (fun e => by rw [e] at hx; simp at hx)
      subst hAe
      obtain ⟨hbB, cs, hcs, hP⟩ := hrow2 k x hx
      have hPw := hP
      obtain ⟨v0, v1, rfl, h1, h2, r0, r1, h3⟩ := hP
      obtain ⟨oA0, on0, oc0, rfl, _⟩ := r0.parts
      obtain ⟨oA1, on1, oc1, rfl, _⟩ := r1.parts
      have l0 : wr.cell? ⟨b, o + k * 6, none⟩ = some (.int .i64 x.id) := (World.cell?_of_block (HI.out.bl.block b (by omega))).trans (hcs 0 (by simp))
      have l1 : wr.cell? ⟨b, o + k * 6 + 1, none⟩ = some (.string (strL x.name)) := (World.cell?_of_block (HI.out.bl.block b (by omega))).trans (hcs 1 (by simp))
      have l2 : wr.cell? ⟨b, o + k * 6 + 2, none⟩ = some (.slice oA0 on0 oc0) := (World.cell?_of_block (HI.out.bl.block b (by omega))).trans (hcs 2 (by simp))
      have l3 : wr.cell? ⟨b, o + k * 6 + 3, none⟩ = some (.slice oA1 on1 oc1) := (World.cell?_of_block (HI.out.bl.block b (by omega))).trans (hcs 3 (by simp))
      have l4 : wr.cell? ⟨b, o + k * 6 + 4, none⟩ = some (.int .i64 x.quota) := (World.cell?_of_block (HI.out.bl.block b (by omega))).trans (hcs 4 (by simp))
      have l5 : wr.cell? ⟨b, o + k * 6 + 5, none⟩ = some (.bool x.audit) := (World.cell?_of_block (HI.out.bl.block b (by omega))).trans (hcs 5 (by simp))
      have HPW := Lib.hid hPw
      obtain ⟨V, hV⟩ : ∃ zz, zz = wr.alloc (.cells #[.int .i64 x.id, .string (strL x.name), .slice oA0 on0 oc0, .slice oA1 on1 oc1, .int .i64 x.quota, .bool x.audit] 183) := ⟨_, rfl⟩
      have hbV : Below wr.heap.size wr V := by rw [hV]; exact (Below.refl _ _).alloc (Nat.le_refl _) _
      have hVb : V.heap[wr.heap.size]? = some (.cells #[.int .i64 x.id, .string (strL x.name), .slice oA0 on0 oc0, .slice oA1 on1 oc1, .int .i64 x.quota, .bool x.audit] 183 (0, 0)) := by rw [hV]; exact heap_alloc_new _ _
      have HV := Lib.hid hV
      have KE : Hid (Calls Tryz.prog 120 #[.agg #[.int .i64 x.id, .string (strL x.name), .slice oA0 on0 oc0, .slice oA1 on1 oc1, .int .i64 x.quota, .bool x.audit]] V (RetEl 6 RoleV V x)) := Lib.hid (ke_role (kept_role _ _ _ _ _ ((HI.out.bl.trans (hbV.mono HI.out.bl.size)).mono hB) HPW.out) (Nat.le_trans hB (Nat.le_trans HI.out.bl.size hbV.size)) (HS0.out x (List.mem_of_getElem? HX.out)) (HS1.out x (List.mem_of_getElem? HX.out)) (HS2.out x (List.mem_of_getElem? HX.out)))
      have m0 : V.cell? ⟨wr.heap.size, 0, none⟩ = some (.int .i64 x.id) := blk_cell hVb 0 _ rfl
      have m1 : V.cell? ⟨wr.heap.size, 1, none⟩ = some (.string (strL x.name)) := blk_cell hVb 1 _ rfl
      have m2 : V.cell? ⟨wr.heap.size, 2, none⟩ = some (.slice oA0 on0 oc0) := blk_cell hVb 2 _ rfl
      have m3 : V.cell? ⟨wr.heap.size, 3, none⟩ = some (.slice oA1 on1 oc1) := blk_cell hVb 3 _ rfl
      have m4 : V.cell? ⟨wr.heap.size, 4, none⟩ = some (.int .i64 x.quota) := blk_cell hVb 4 _ rfl
      have m5 : V.cell? ⟨wr.heap.size, 5, none⟩ = some (.bool x.audit) := blk_cell hVb 5 _ rfl
      have HBV := Lib.hid hbV
      clear hPw hcs hrow hrow2 hV hx h1 h2 r0 r1 h3
      go_upto_region 5 with fail
      rw [← HV.out]
      clear l0 l1 l2 l3 l4 l5
      go_upto_region 6 with (go_at_call 120; go_loud ((with_reducible refine KE.out.mono ?_); rintro en u ⟨cs', rfl, hcl, hel, hbu⟩; have hq := hel u u.heap.size (.refl (Nat.le_refl _)) (Nat.le_refl _); obtain ⟨v0, v1, rfl, h1, h2, r0, r1, h3⟩ := hq; obtain ⟨nA0, nn0, nc0, rfl, _⟩ := r0.parts; obtain ⟨nA1, nn1, nc1, rfl, _⟩ := r1.parts; have HEL := Lib.hid hel; have HBU := Lib.hid hbu; have hou := World.ownsRow.kept (World.ownsRow.kept HI.out.own (grown_of_below HBV.out none) (.inr (by simp [Value.ownBlock]))) (grown_of_below hbu none) (.inr (by simp [Value.ownBlock])); obtain ⟨y0, p0⟩ : ∃ yy, u.cell? ⟨w.heap.size, k * 6, none⟩ = some yy := ⟨_, (World.ownsRow.cellAt hou (k * 6) (by omega)).trans (List.getElem?_eq_getElem (by rw [hou.1]; omega))⟩; have pf0 := World.ownsRow.frozenAt hou (k * 6); obtain ⟨y1, p1⟩ : ∃ yy, u.cell? ⟨w.heap.size, k * 6 + 1, none⟩ = some yy := ⟨_, (World.ownsRow.cellAt hou (k * 6 + 1) (by omega)).trans (List.getElem?_eq_getElem (by rw [hou.1]; omega))⟩; have pf1 := World.ownsRow.frozenAt hou (k * 6 + 1); obtain ⟨y2, p2⟩ : ∃ yy, u.cell? ⟨w.heap.size, k * 6 + 2, none⟩ = some yy := ⟨_, (World.ownsRow.cellAt hou (k * 6 + 2) (by omega)).trans (List.getElem?_eq_getElem (by rw [hou.1]; omega))⟩; have pf2 := World.ownsRow.frozenAt hou (k * 6 + 2); obtain ⟨y3, p3⟩ : ∃ yy, u.cell? ⟨w.heap.size, k * 6 + 3, none⟩ = some yy := ⟨_, (World.ownsRow.cellAt hou (k * 6 + 3) (by omega)).trans (List.getElem?_eq_getElem (by rw [hou.1]; omega))⟩; have pf3 := World.ownsRow.frozenAt hou (k * 6 + 3); obtain ⟨y4, p4⟩ : ∃ yy, u.cell? ⟨w.heap.size, k * 6 + 4, none⟩ = some yy := ⟨_, (World.ownsRow.cellAt hou (k * 6 + 4) (by omega)).trans (List.getElem?_eq_getElem (by rw [hou.1]; omega))⟩; have pf4 := World.ownsRow.frozenAt hou (k * 6 + 4); obtain ⟨y5, p5⟩ : ∃ yy, u.cell? ⟨w.heap.size, k * 6 + 5, none⟩ = some yy := ⟨_, (World.ownsRow.cellAt hou (k * 6 + 5) (by omega)).trans (List.getElem?_eq_getElem (by rw [hou.1]; omega))⟩; have pf5 := World.ownsRow.frozenAt hou (k * 6 + 5); clear hel hbu hou h1 h2 r0 r1 h3))
      have hst := HI.out.step hlt HX.out (HBV.out.trans (HBU.out.mono HBV.out.size)) (a := V.heap.size) HBV.out.size hcl HEL.out
      go_wp2_with fail
      go_roundw
      case rel => exact ⟨k + 1, _, _, by omega, by simp, hst⟩
      case measure => (first | (simp; omega) | (simp [intOf]; omega) | omega)
    · obtain rfl : k = n := by omega
      have j1 : ¬ (k : Int) < (k : Int) := by omega
      go_wp2_with fail
      go_ret
      exact HI.out.done HNX.out (by unfold maxLen; omega) (by decide)
end Go.Proofs.YtldgjahpmlafgaaGreat
