/- Copies of installed entries. -/
import Derived.Test.YtldgjahpmlafgaaGreatKEach
import Derived.Test.YtldgjahpmlafgaaGreatGEOp
namespace Go.Proofs.YtldgjahpmlafgaaGreat
open Go.RowKit
theorem kept_installed : KeptP InstV := fun _ _ _ _ _ hb ⟨v, u, e, h1, h2, h3, h4, h5, h6, h7⟩ => ⟨v, u, e, h1, h2.below kept_match hb, h3, h4, h5.below kept_val hb, h6, h7⟩
set_option maxRecDepth 100000 in
set_option maxHeartbeats 8000000 in
theorem ke_installed {w : World} {B : Nat} {cs : List Value} {x : EntryD × Int × Int} (h : InstV B w cs x) (hB : B ≤ w.heap.size) (hs0 : x.1.ms.length ≤ 1000000) (hs1 : x.1.args.length ≤ 1000000) : Calls Tryz.prog 76 #[.agg cs.toArray] w (RetEl 7 InstV w x) := by
  obtain ⟨v0, v1, rfl, h1, r0, h2, h3, r1, h4, h5⟩ := h
  obtain ⟨oA0, on0, oc0, rfl, _⟩ := r0.parts
  obtain ⟨oA1, on1, oc1, rfl, _⟩ := r1.parts
  obtain ⟨W0, hW0⟩ : ∃ W, W = (w.alloc (.cells #[.int .i64 x.1.table, .slice oA0 on0 oc0, .int .i64 x.1.prio, .int .i64 x.1.action, .slice oA1 on1 oc1, .int .i64 x.2.1, .int .i64 x.2.2] 43)).alloc (.cells #[.int .i64 0, .slice none 0 0, .int .i64 0, .int .i64 0, .slice none 0 0, .int .i64 0, .int .i64 0] 43) := ⟨_, rfl⟩
  have hb0 : Below w.heap.size w W0 := by rw [hW0]; exact ((Below.refl w.heap.size w).alloc (by simp) _).alloc (by simp) _
  have hz0 : w.heap.size + 2 = W0.heap.size := by rw [hW0]; simp
  have b0 : W0.heap[w.heap.size]? = some (.cells #[.int .i64 x.1.table, .slice oA0 on0 oc0, .int .i64 x.1.prio, .int .i64 x.1.action, .slice oA1 on1 oc1, .int .i64 x.2.1, .int .i64 x.2.2] 43 (0, 0)) := by
    rw [hW0]
    exact ((grown_alloc _ _ none).block _ (by simp) (by simp)).trans (heap_alloc_new _ _)
  have c0 : W0.heap[w.heap.size + 1]? = some (.cells #[.int .i64 0, .slice none 0 0, .int .i64 0, .int .i64 0, .slice none 0 0, .int .i64 0, .int .i64 0] 43 (0, 0)) := by
    rw [hW0]
    rw [show w.heap.size + 1 = (w.alloc (.cells #[.int .i64 x.1.table, .slice oA0 on0 oc0, .int .i64 x.1.prio, .int .i64 x.1.action, .slice oA1 on1 oc1, .int .i64 x.2.1, .int .i64 x.2.2] 43)).heap.size by simp]
    exact heap_alloc_new _ _
  have HW0 := Lib.hid hW0
  clear hW0
  have K0 : Hid (Calls Tryz.prog 129 #[.agg #[.int .i64 x.1.table, .slice oA0 on0 oc0, .int .i64 x.1.prio, .int .i64 x.1.action, .slice oA1 on1 oc1]] W0 (RetEl 5 EntryV W0 x.1)) := Lib.hid (ke_entry (B := B) ⟨_, _, rfl, h1, r0.below kept_match (hb0.mono hB), h2, h3, r1.below kept_val (hb0.mono hB)⟩ (Nat.le_trans hB hb0.size) hs0 hs1)
  clear r0 r1
  go_enter Tryz.func76, Tryz.ntmps76
  go_upto_region 1 with fail
  rw [← HW0.out]
  have e0 : W0.cell? ⟨w.heap.size, 0, none⟩ = some (.int .i64 x.1.table) := blk_cell b0 0 _ rfl
  have e1 : W0.cell? ⟨w.heap.size, 1, none⟩ = some (.slice oA0 on0 oc0) := blk_cell b0 1 _ rfl
  have e2 : W0.cell? ⟨w.heap.size, 2, none⟩ = some (.int .i64 x.1.prio) := blk_cell b0 2 _ rfl
  have e3 : W0.cell? ⟨w.heap.size, 3, none⟩ = some (.int .i64 x.1.action) := blk_cell b0 3 _ rfl
  have e4 : W0.cell? ⟨w.heap.size, 4, none⟩ = some (.slice oA1 on1 oc1) := blk_cell b0 4 _ rfl
  go_upto_region 2 with (go_at_call 129; go_loud ((with_reducible refine K0.out.mono ?_); rintro en u0 ⟨cs', rfl, hcl, hel, hd0⟩; have hq := hel u0 u0.heap.size (.refl (Nat.le_refl _)) (Nat.le_refl _); obtain ⟨v0, v1, rfl, h1, r0, h2, h3, r1⟩ := hq; obtain ⟨nA0, nn0, nc0, rfl, _⟩ := r0.parts; obtain ⟨nA1, nn1, nc1, rfl, _⟩ := r1.parts; have g0 := (hd0.block w.heap.size (by omega)).trans b0; have y0 := (hd0.block (w.heap.size + 1) (by omega)).trans c0; have t0 := blk_cell g0 0 _ rfl; have f0 := blk_froz g0 0; have t1 := blk_cell g0 1 _ rfl; have f1 := blk_froz g0 1; have t2 := blk_cell g0 2 _ rfl; have f2 := blk_froz g0 2; have t3 := blk_cell g0 3 _ rfl; have f3 := blk_froz g0 3; have t4 := blk_cell g0 4 _ rfl; have f4 := blk_froz g0 4))
  obtain ⟨W1, hW1⟩ : ∃ W, W = (((((u0.setCell ⟨w.heap.size, 0, none⟩ (.int .i64 x.1.table)).setCell ⟨w.heap.size, 1, none⟩ (.slice nA0 nn0 nc0)).setCell ⟨w.heap.size, 2, none⟩ (.int .i64 x.1.prio)).setCell ⟨w.heap.size, 3, none⟩ (.int .i64 x.1.action)).setCell ⟨w.heap.size, 4, none⟩ (.slice nA1 nn1 nc1)) := ⟨_, rfl⟩
  rw [← hW1]
  have hgs0 : u0.grownBy W1 (some w.heap.size) := by rw [hW1]; exact ((((grown_set _ (w.heap.size) 0 _).trans (grown_set _ (w.heap.size) 1 _)).trans (grown_set _ (w.heap.size) 2 _)).trans (grown_set _ (w.heap.size) 3 _)).trans (grown_set _ (w.heap.size) 4 _)
  have hz1 : w.heap.size + 2 ≤ W1.heap.size := by have := hd0.size; have := hgs0.size; omega
  have b1 : W1.heap[w.heap.size]? = some (.cells #[.int .i64 x.1.table, .slice nA0 nn0 nc0, .int .i64 x.1.prio, .int .i64 x.1.action, .slice nA1 nn1 nc1, .int .i64 x.2.1, .int .i64 x.2.2] 43 (0, 0)) := by rw [hW1]; exact blk_set (blk_set (blk_set (blk_set (blk_set g0 0 _) 1 _) 2 _) 3 _) 4 _
  have c1 : W1.heap[w.heap.size + 1]? = some (.cells #[.int .i64 0, .slice none 0 0, .int .i64 0, .int .i64 0, .slice none 0 0, .int .i64 0, .int .i64 0] 43 (0, 0)) := (hgs0.block _ (by have := hd0.size; omega) (fun e => by injection e with e; omega)).trans y0
  have hb1 : Below w.heap.size w W1 := hb0.trans (⟨hgs0.os.trans hd0.os, hgs0.tape.trans hd0.tape, hgs0.output.trans hd0.output, Nat.le_trans hd0.size hgs0.size, fun k hk => (hgs0.block k (by have := hd0.size; omega) (fun e => by injection e with e; omega)).trans (hd0.block k (by omega))⟩)
  have hel1 := hel.stay (a2 := W0.heap.size) (b2 := u0.heap.size) hgs0 (Nat.le_refl _) (fun k e => by injection e with e; omega) (Nat.le_refl _) (Nat.le_refl _)
  clear hW1 e0 t0 f0 e1 t1 f1 e2 t2 f2 e3 t3 f3 e4 t4 f4
  have s0 : W1.cell? ⟨w.heap.size, 0, none⟩ = some (.int .i64 x.1.table) := blk_cell b1 0 _ rfl
  have z0 : W1.cell? ⟨w.heap.size + 1, 0, none⟩ = some _ := blk_cell c1 0 _ rfl
  have zf0 := blk_froz c1 0
  have s1 : W1.cell? ⟨w.heap.size, 1, none⟩ = some (.slice nA0 nn0 nc0) := blk_cell b1 1 _ rfl
  have z1 : W1.cell? ⟨w.heap.size + 1, 1, none⟩ = some _ := blk_cell c1 1 _ rfl
  have zf1 := blk_froz c1 1
  have s2 : W1.cell? ⟨w.heap.size, 2, none⟩ = some (.int .i64 x.1.prio) := blk_cell b1 2 _ rfl
  have z2 : W1.cell? ⟨w.heap.size + 1, 2, none⟩ = some _ := blk_cell c1 2 _ rfl
  have zf2 := blk_froz c1 2
  have s3 : W1.cell? ⟨w.heap.size, 3, none⟩ = some (.int .i64 x.1.action) := blk_cell b1 3 _ rfl
  have z3 : W1.cell? ⟨w.heap.size + 1, 3, none⟩ = some _ := blk_cell c1 3 _ rfl
  have zf3 := blk_froz c1 3
  have s4 : W1.cell? ⟨w.heap.size, 4, none⟩ = some (.slice nA1 nn1 nc1) := blk_cell b1 4 _ rfl
  have z4 : W1.cell? ⟨w.heap.size + 1, 4, none⟩ = some _ := blk_cell c1 4 _ rfl
  have zf4 := blk_froz c1 4
  have s5 : W1.cell? ⟨w.heap.size, 5, none⟩ = some (.int .i64 x.2.1) := blk_cell b1 5 _ rfl
  have z5 : W1.cell? ⟨w.heap.size + 1, 5, none⟩ = some _ := blk_cell c1 5 _ rfl
  have zf5 := blk_froz c1 5
  have s6 : W1.cell? ⟨w.heap.size, 6, none⟩ = some (.int .i64 x.2.2) := blk_cell b1 6 _ rfl
  have z6 : W1.cell? ⟨w.heap.size + 1, 6, none⟩ = some _ := blk_cell c1 6 _ rfl
  have zf6 := blk_froz c1 6
  go_wp2_with fail
  obtain ⟨X, hX⟩ : ∃ X, X = (((((((W1.setCell ⟨w.heap.size + 1, 0, none⟩ (.int .i64 x.1.table)).setCell ⟨w.heap.size + 1, 1, none⟩ (.slice nA0 nn0 nc0)).setCell ⟨w.heap.size + 1, 2, none⟩ (.int .i64 x.1.prio)).setCell ⟨w.heap.size + 1, 3, none⟩ (.int .i64 x.1.action)).setCell ⟨w.heap.size + 1, 4, none⟩ (.slice nA1 nn1 nc1)).setCell ⟨w.heap.size + 1, 5, none⟩ (.int .i64 x.2.1)).setCell ⟨w.heap.size + 1, 6, none⟩ (.int .i64 x.2.2)) := ⟨_, rfl⟩
  have hgx : W1.grownBy X (some (w.heap.size + 1)) := by
    rw [hX]
    exact ((((((grown_set _ (w.heap.size + 1) 0 _).trans (grown_set _ (w.heap.size + 1) 1 _)).trans (grown_set _ (w.heap.size + 1) 2 _)).trans (grown_set _ (w.heap.size + 1) 3 _)).trans (grown_set _ (w.heap.size + 1) 4 _)).trans (grown_set _ (w.heap.size + 1) 5 _)).trans (grown_set _ (w.heap.size + 1) 6 _)
  have hcx : X.heap[w.heap.size + 1]? = some (.cells #[.int .i64 x.1.table, .slice nA0 nn0 nc0, .int .i64 x.1.prio, .int .i64 x.1.action, .slice nA1 nn1 nc1, .int .i64 x.2.1, .int .i64 x.2.2] 43 (0, 0)) := by rw [hX]; exact (blk_set (blk_set (blk_set (blk_set (blk_set (blk_set (blk_set c1 0 _) 1 _) 2 _) 3 _) 4 _) 5 _) 6 _)
  have hbx : Below w.heap.size w X := hb1.trans ⟨hgx.os, hgx.tape, hgx.output, hgx.size, fun k hk => hgx.block k (by omega) (fun e => by injection e with e; omega)⟩
  have q0 := blk_cell hcx 0 _ rfl
  have q1 := blk_cell hcx 1 _ rfl
  have q2 := blk_cell hcx 2 _ rfl
  have q3 := blk_cell hcx 3 _ rfl
  have q4 := blk_cell hcx 4 _ rfl
  have q5 := blk_cell hcx 5 _ rfl
  have q6 := blk_cell hcx 6 _ rfl
  rw [← hX]
  refine bodyPost_ret (v := .agg #[.int .i64 x.1.table, .slice nA0 nn0 nc0, .int .i64 x.1.prio, .int .i64 x.1.action, .slice nA1 nn1 nc1, .int .i64 x.2.1, .int .i64 x.2.2]) (by simp [results, Tryz.results76, go_sem, q0, q1, q2, q3, q4, q5, q6]) rfl ?_
  have hel2 := hel1.stay (a2 := w.heap.size) (b2 := X.heap.size) hgx hgs0.size (fun k e => by injection e with e; omega) (by omega) (by have := hgx.size; have := hgs0.size; omega)
  exact ⟨_, rfl, rfl, fun w2 B2 hs2 hb2 => by
    obtain ⟨_, _, e1, k1, k2, k3, k4, k5⟩ := hel2 w2 B2 hs2 hb2
    simp only [List.cons.injEq, and_true] at e1
    obtain ⟨_, rfl, _, _, rfl⟩ := e1
    exact ⟨_, _, rfl, k1, k2, k3, k4, k5, h4, h5⟩, hbx⟩
theorem infoK_installed : (Tryz.prog.info? 43).map (fun i => (i.zero.map (fun z => z.cells.size), i.size, i.bytes)) = some (some 7, 7, 88) := by kernel_rfl
set_option maxRecDepth 100000 in
set_option maxHeartbeats 8000000 in
theorem ea_installed {w : World} {B : Nat} {v : Value} {xs : List (EntryD × Int × Int)} (h : RowV 7 InstV B w v xs) (hB : B ≤ w.heap.size) (hn : xs.length ≤ 1000000) (hs0 : ∀ x ∈ xs, x.1.ms.length ≤ 1000000) (hs1 : ∀ x ∈ xs, x.1.args.length ≤ 1000000) : Calls Tryz.prog 89 #[v, .func (.func 76) #[] #[]] w (RetClo 7 InstV w xs) := by
  obtain ⟨i0, z0, hi, hz, hy1, hy2, hzs⟩ := infoK_parts infoK_installed
  obtain ⟨A, n, c, rfl, hnx, hnc, hcm⟩ := h.parts
  have hn2 : n ≤ 1000000 := by have := hnx.out; omega
  have hmk : ∀ u : World, (Instr.makeSlice 62 (.int .i64 (n : Int)) (.int .i64 (n : Int))).run Tryz.prog u = .ok (.slice (some ⟨u.heap.size, 0, none⟩) n n) (u.alloc (.cells (madeCells z0.cells (n * 7)) 43)) := fun u => by
    have h := run_make (P := Tryz.prog) u 62 43 i0 z0 Tryz.underlying62 hi hz .i64 .i64 (n : Int) (n : Int) (by omega) (Int.le_refl _) (by rw [hy2]; omega) (by omega)
    simpa [hy1] using h
  have I0 : Hid (EacI 7 InstV 43 w (w.alloc (.cells (madeCells z0.cells (n * 7)) 43)) xs n 0 [] (madeCells z0.cells (n * 7)).toList) := Lib.hid
    ⟨⟨by simp [madeCells], .inr ⟨w.heap.size, n, _, rfl, Nat.le_refl _, heap_alloc_new w _, Nat.le_refl _, by unfold maxLen; omega, by simp [madeCells], by rw [List.take_of_length_le (by simp [madeCells])]⟩⟩, rfl, fun l hl => (by cases hl), fun i l j u h1 _ => (by simp at h1), fun i l x h1 _ => (by simp at h1), (Below.refl w.heap.size w).alloc (Nat.le_refl _) _⟩
  have H := Lib.hid h
  have HNX := hnx
  obtain ⟨ZZ, hZZ⟩ : ∃ ZZ, ZZ = madeCells z0.cells (n * 7) := ⟨_, rfl⟩
  rw [← hZZ] at hmk I0
  clear hZZ
  have HS0 := Lib.hid hs0
  have HS1 := Lib.hid hs1
  clear hi hz hy1 hy2 hzs h hs0 hs1 hnx
  go_enter Tryz.func89, Tryz.ntmps89
  go_wp2_with fail
  go_loopw [13] (fun i W => ∃ (k : Nat) (cl : List (List Value)) (ys : List Value), k ≤ n ∧ i = .int .i64 (k : Int) ∧ EacI 7 InstV 43 w W xs n k cl ys) (fun i _ => n - (intOf i).toNat)
  case atStart => exact ⟨0, [], _, Nat.zero_le _, rfl, I0.out⟩
  case round =>
    obtain ⟨k, cl, ys, hk, rfl, hI⟩ := hrel
    have HI := Lib.hid hI
    clear hI hmk I0
    by_cases hlt : k < n
    · have j1 : (k : Int) < (n : Int) := by omega
      have j2 : (k : Int) < (c : Int) := by omega
      have j3 : (0 : Int) ≤ (k : Int) := by omega
      have hx : xs[k]? = some (xs[k]'(by have := HNX.out; omega)) := List.getElem?_eq_getElem _
      obtain ⟨x, hxe⟩ : ∃ x, x = xs[k]'(by have := HNX.out; omega) := ⟨_, rfl⟩
      rw [← hxe] at hx
      clear hxe
      have HX := Lib.hid hx
      obtain ⟨_, _, _, eA, _, _, _, hrow⟩ := H.out
      injection eA with eA1 eA2 eA3
      subst eA1 eA2 eA3
      obtain ⟨b, o, hAe, hrow2⟩ := hrow.resolve_left (fun e => by rw [e] at hx; simp at hx)
      subst hAe
      obtain ⟨hbB, cs, hcs, hP⟩ := hrow2 k x hx
      have hPw := hP
      obtain ⟨v0, v1, rfl, h1, r0, h2, h3, r1, h4, h5⟩ := hP
      obtain ⟨oA0, on0, oc0, rfl, _⟩ := r0.parts
      obtain ⟨oA1, on1, oc1, rfl, _⟩ := r1.parts
      have l0 : wr.cell? ⟨b, o + k * 7, none⟩ = some (.int .i64 x.1.table) := (World.cell?_of_block (HI.out.bl.block b (by omega))).trans (hcs 0 (by simp))
      have l1 : wr.cell? ⟨b, o + k * 7 + 1, none⟩ = some (.slice oA0 on0 oc0) := (World.cell?_of_block (HI.out.bl.block b (by omega))).trans (hcs 1 (by simp))
      have l2 : wr.cell? ⟨b, o + k * 7 + 2, none⟩ = some (.int .i64 x.1.prio) := (World.cell?_of_block (HI.out.bl.block b (by omega))).trans (hcs 2 (by simp))
      have l3 : wr.cell? ⟨b, o + k * 7 + 3, none⟩ = some (.int .i64 x.1.action) := (World.cell?_of_block (HI.out.bl.block b (by omega))).trans (hcs 3 (by simp))
      have l4 : wr.cell? ⟨b, o + k * 7 + 4, none⟩ = some (.slice oA1 on1 oc1) := (World.cell?_of_block (HI.out.bl.block b (by omega))).trans (hcs 4 (by simp))
      have l5 : wr.cell? ⟨b, o + k * 7 + 5, none⟩ = some (.int .i64 x.2.1) := (World.cell?_of_block (HI.out.bl.block b (by omega))).trans (hcs 5 (by simp))
      have l6 : wr.cell? ⟨b, o + k * 7 + 6, none⟩ = some (.int .i64 x.2.2) := (World.cell?_of_block (HI.out.bl.block b (by omega))).trans (hcs 6 (by simp))
      have HPW := Lib.hid hPw
      obtain ⟨V, hV⟩ : ∃ zz, zz = wr.alloc (.cells #[.int .i64 x.1.table, .slice oA0 on0 oc0, .int .i64 x.1.prio, .int .i64 x.1.action, .slice oA1 on1 oc1, .int .i64 x.2.1, .int .i64 x.2.2] 43) := ⟨_, rfl⟩
      have hbV : Below wr.heap.size wr V := by rw [hV]; exact (Below.refl _ _).alloc (Nat.le_refl _) _
      have hVb : V.heap[wr.heap.size]? = some (.cells #[.int .i64 x.1.table, .slice oA0 on0 oc0, .int .i64 x.1.prio, .int .i64 x.1.action, .slice oA1 on1 oc1, .int .i64 x.2.1, .int .i64 x.2.2] 43 (0, 0)) := by rw [hV]; exact heap_alloc_new _ _
      have HV := Lib.hid hV
      have KE : Hid (Calls Tryz.prog 76 #[.agg #[.int .i64 x.1.table, .slice oA0 on0 oc0, .int .i64 x.1.prio, .int .i64 x.1.action, .slice oA1 on1 oc1, .int .i64 x.2.1, .int .i64 x.2.2]] V (RetEl 7 InstV V x)) := Lib.hid (ke_installed (kept_installed _ _ _ _ _ ((HI.out.bl.trans (hbV.mono HI.out.bl.size)).mono hB) HPW.out) (Nat.le_trans hB (Nat.le_trans HI.out.bl.size hbV.size)) (HS0.out x (List.mem_of_getElem? HX.out)) (HS1.out x (List.mem_of_getElem? HX.out)))
      have m0 : V.cell? ⟨wr.heap.size, 0, none⟩ = some (.int .i64 x.1.table) := blk_cell hVb 0 _ rfl
      have m1 : V.cell? ⟨wr.heap.size, 1, none⟩ = some (.slice oA0 on0 oc0) := blk_cell hVb 1 _ rfl
      have m2 : V.cell? ⟨wr.heap.size, 2, none⟩ = some (.int .i64 x.1.prio) := blk_cell hVb 2 _ rfl
      have m3 : V.cell? ⟨wr.heap.size, 3, none⟩ = some (.int .i64 x.1.action) := blk_cell hVb 3 _ rfl
      have m4 : V.cell? ⟨wr.heap.size, 4, none⟩ = some (.slice oA1 on1 oc1) := blk_cell hVb 4 _ rfl
      have m5 : V.cell? ⟨wr.heap.size, 5, none⟩ = some (.int .i64 x.2.1) := blk_cell hVb 5 _ rfl
      have m6 : V.cell? ⟨wr.heap.size, 6, none⟩ = some (.int .i64 x.2.2) := blk_cell hVb 6 _ rfl
      have HBV := Lib.hid hbV
      clear hPw hcs hrow hrow2 hV hx h1 r0 h2 h3 r1 h4 h5
      go_upto_region 5 with fail
      rw [← HV.out]
      clear l0 l1 l2 l3 l4 l5 l6
      go_upto_region 6 with (go_at_call 76; go_loud ((with_reducible refine KE.out.mono ?_); rintro en u ⟨cs', rfl, hcl, hel, hbu⟩; have hq := hel u u.heap.size (.refl (Nat.le_refl _)) (Nat.le_refl _); obtain ⟨v0, v1, rfl, h1, r0, h2, h3, r1, h4, h5⟩ := hq; obtain ⟨nA0, nn0, nc0, rfl, _⟩ := r0.parts; obtain ⟨nA1, nn1, nc1, rfl, _⟩ := r1.parts; have HEL := Lib.hid hel; have HBU := Lib.hid hbu; have hou := World.ownsRow.kept (World.ownsRow.kept HI.out.own (grown_of_below HBV.out none) (.inr (by simp [Value.ownBlock]))) (grown_of_below hbu none) (.inr (by simp [Value.ownBlock])); obtain ⟨y0, p0⟩ : ∃ yy, u.cell? ⟨w.heap.size, k * 7, none⟩ = some yy := ⟨_, (World.ownsRow.cellAt hou (k * 7) (by omega)).trans (List.getElem?_eq_getElem (by rw [hou.1]; omega))⟩; have pf0 := World.ownsRow.frozenAt hou (k * 7); obtain ⟨y1, p1⟩ : ∃ yy, u.cell? ⟨w.heap.size, k * 7 + 1, none⟩ = some yy := ⟨_, (World.ownsRow.cellAt hou (k * 7 + 1) (by omega)).trans (List.getElem?_eq_getElem (by rw [hou.1]; omega))⟩; have pf1 := World.ownsRow.frozenAt hou (k * 7 + 1); obtain ⟨y2, p2⟩ : ∃ yy, u.cell? ⟨w.heap.size, k * 7 + 2, none⟩ = some yy := ⟨_, (World.ownsRow.cellAt hou (k * 7 + 2) (by omega)).trans (List.getElem?_eq_getElem (by rw [hou.1]; omega))⟩; have pf2 := World.ownsRow.frozenAt hou (k * 7 + 2); obtain ⟨y3, p3⟩ : ∃ yy, u.cell? ⟨w.heap.size, k * 7 + 3, none⟩ = some yy := ⟨_, (World.ownsRow.cellAt hou (k * 7 + 3) (by omega)).trans (List.getElem?_eq_getElem (by rw [hou.1]; omega))⟩; have pf3 := World.ownsRow.frozenAt hou (k * 7 + 3); obtain ⟨y4, p4⟩ : ∃ yy, u.cell? ⟨w.heap.size, k * 7 + 4, none⟩ = some yy := ⟨_, (World.ownsRow.cellAt hou (k * 7 + 4) (by omega)).trans (List.getElem?_eq_getElem (by rw [hou.1]; omega))⟩; have pf4 := World.ownsRow.frozenAt hou (k * 7 + 4); obtain ⟨y5, p5⟩ : ∃ yy, u.cell? ⟨w.heap.size, k * 7 + 5, none⟩ = some yy := ⟨_, (World.ownsRow.cellAt hou (k * 7 + 5) (by omega)).trans (List.getElem?_eq_getElem (by rw [hou.1]; omega))⟩; have pf5 := World.ownsRow.frozenAt hou (k * 7 + 5); obtain ⟨y6, p6⟩ : ∃ yy, u.cell? ⟨w.heap.size, k * 7 + 6, none⟩ = some yy := ⟨_, (World.ownsRow.cellAt hou (k * 7 + 6) (by omega)).trans (List.getElem?_eq_getElem (by rw [hou.1]; omega))⟩; have pf6 := World.ownsRow.frozenAt hou (k * 7 + 6); clear hel hbu hou h1 r0 h2 h3 r1 h4 h5))
      have hst := HI.out.step hlt HX.out (HBV.out.trans (HBU.out.mono HBV.out.size)) (a := V.heap.size) HBV.out.size hcl HEL.out
      go_wp2_with fail
      go_roundw
      case rel => exact ⟨k + 1, _, _, by omega, by simp, hst⟩
      case measure => (first | (simp; omega) | (simp [intOf]; omega) | omega)
    · obtain rfl : k = n := by omega
      have j1 : ¬ (k : Int) < (k : Int) := by omega
      go_wp2_with fail
      go_ret
      exact HI.out.done HNX.out (by unfold maxLen; omega) (by decide)
end Go.Proofs.YtldgjahpmlafgaaGreat
