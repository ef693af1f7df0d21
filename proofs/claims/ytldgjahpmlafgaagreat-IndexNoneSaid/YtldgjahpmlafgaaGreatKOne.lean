/- Copies of the elements of schemas, of entries. -/
import Derived.Test.YtldgjahpmlafgaaGreatKCl
import Derived.Test.YtldgjahpmlafgaaGreatGPre
namespace Go.Proofs.YtldgjahpmlafgaaGreat
open Go.RowKit
/-- a copy of an element, its rows in memory of their own -/
def RetEl {α : Type} (sz : Nat) (P : CellP α) (w : World) (x : α) (en : Ending) (w' : World) : Prop := ∃ cs' : List Value, en = .returned (.agg cs'.toArray) ∧ cs'.length = sz ∧ ElH P w.heap.size w'.heap.size w' cs' x ∧ Below w.heap.size w w'
/-- a row that is kept by whatever leaves its blocks -/
theorem RowH.stay {α : Type} {sz a b : Nat} {P : CellP α} {W W' : World} {v : Value} {xs : List α} (h : RowH sz P a b W v xs) {row : Option Nat} (hg : W.grownBy W' row) (hb : b ≤ W.heap.size) (hr : ∀ k, row = some k → k < a ∨ b ≤ k) : RowH sz P a b W' v xs := h.kept (SameB.of_grown hg hb hr)
set_option maxRecDepth 100000 in
set_option maxHeartbeats 8000000 in
theorem ke_header {w : World} {B : Nat} {cs : List Value} {x : HeaderD} (h : HeaderV B w cs x) (hB : B ≤ w.heap.size) (hs0 : x.fields.length ≤ 1000000) : Calls Tryz.prog 111 #[.agg cs.toArray] w (RetEl 3 HeaderV w x) := by
  obtain ⟨v0, rfl, h1, h2, r0⟩ := h
  obtain ⟨oA0, on0, oc0, rfl, _⟩ := r0.parts
  obtain ⟨W0, hW0⟩ : ∃ W, W = (w.alloc (.cells #[.int .i64 x.id, .string (strL x.name), .slice oA0 on0 oc0] 114)).alloc (.cells #[.int .i64 0, .string ⟨#[]⟩, .slice none 0 0] 114) := ⟨_, rfl⟩
  have hb0 : Below w.heap.size w W0 := by rw [hW0]; exact ((Below.refl w.heap.size w).alloc (by simp) _).alloc (by simp) _
  have hz0 : w.heap.size + 2 = W0.heap.size := by rw [hW0]; simp
  have b0 : W0.heap[w.heap.size]? = some (.cells #[.int .i64 x.id, .string (strL x.name), .slice oA0 on0 oc0] 114 (0, 0)) := by
    rw [hW0]
    exact ((grown_alloc _ _ none).block _ (by simp) (by simp)).trans (heap_alloc_new _ _)
  have c0 : W0.heap[w.heap.size + 1]? = some (.cells #[.int .i64 0, .string ⟨#[]⟩, .slice none 0 0] 114 (0, 0)) := by
    rw [hW0]
    rw [show w.heap.size + 1 = (w.alloc (.cells #[.int .i64 x.id, .string (strL x.name), .slice oA0 on0 oc0] 114)).heap.size by simp]
    exact heap_alloc_new _ _
  have HW0 := Lib.hid hW0
  clear hW0
  have K0 : Hid (∀ W, Below w.heap.size w W → Calls Tryz.prog 159 #[.slice oA0 on0 oc0] W (RetClo 1 I64V W (x.fields))) := Lib.hid fun W hb => kl_int (r0.below kept_int (hb.mono hB)) (Nat.le_trans hB hb.size) hs0
  clear r0
  go_enter Tryz.func111, Tryz.ntmps111
  go_upto_region 1 with fail
  rw [← HW0.out]
  have HB0 := Lib.hid hb0
  have e0 : W0.cell? ⟨w.heap.size, 2, none⟩ = some (.slice oA0 on0 oc0) := blk_cell b0 2 _ rfl
  go_upto_region 2 with (go_at_call 159; (with_reducible refine (K0.out _ HB0.out).mono ?_); rintro en u0 ⟨nA0, nn0, nc0, rfl, hr0, hd0⟩; have g0 := (hd0.block w.heap.size (by omega)).trans b0; have y0 := (hd0.block (w.heap.size + 1) (by omega)).trans c0; have t0 := blk_cell g0 2 _ rfl; have f0 := blk_froz g0 2)
  obtain ⟨W1, hW1⟩ : ∃ W, W = u0.setCell ⟨w.heap.size, 2, none⟩ (.slice nA0 nn0 nc0) := ⟨_, rfl⟩
  rw [← hW1]
  have hz1 : w.heap.size + 2 ≤ W1.heap.size := by rw [hW1]; have := hd0.size; simp; omega
  have hgs0 : u0.grownBy W1 (some w.heap.size) := by rw [hW1]; exact grown_set u0 w.heap.size 2 _
  have b1 : W1.heap[w.heap.size]? = some (.cells #[.int .i64 x.id, .string (strL x.name), .slice nA0 nn0 nc0] 114 (0, 0)) := by rw [hW1]; exact blk_set g0 2 _
  have c1 : W1.heap[w.heap.size + 1]? = some (.cells #[.int .i64 0, .string ⟨#[]⟩, .slice none 0 0] 114 (0, 0)) := (hgs0.block _ (by have := hd0.size; omega) (fun e => by injection e with e; omega)).trans y0
  have hb1 : Below w.heap.size w W1 := HB0.out.trans (⟨hgs0.os.trans hd0.os, hgs0.tape.trans hd0.tape, hgs0.output.trans hd0.output, Nat.le_trans hd0.size hgs0.size, fun k hk => (hgs0.block k (by have := hd0.size; have := HB0.out.size; omega) (fun e => by injection e with e; omega)).trans (hd0.block k (by have := HB0.out.size; omega))⟩)
  have lt0 : w.heap.size < W0.heap.size := Nat.lt_of_lt_of_le (by omega) (show w.heap.size + 2 ≤ W0.heap.size from by first | exact hz0 | exact Nat.le_of_eq hz0)
  have hr0w := hr0.stay hgs0 (Nat.le_refl _) (fun k e => .inl (by injection e with e; rw [← e]; exact lt0))
  have le0_1 : u0.heap.size ≤ W1.heap.size := hgs0.size
  clear e0 t0 f0 hW1
  have s0 : W1.cell? ⟨w.heap.size, 0, none⟩ = some (.int .i64 x.id) := blk_cell b1 0 _ rfl
  have z0 : W1.cell? ⟨w.heap.size + 1, 0, none⟩ = some _ := blk_cell c1 0 _ rfl
  have zf0 := blk_froz c1 0
  have s1 : W1.cell? ⟨w.heap.size, 1, none⟩ = some (.string (strL x.name)) := blk_cell b1 1 _ rfl
  have z1 : W1.cell? ⟨w.heap.size + 1, 1, none⟩ = some _ := blk_cell c1 1 _ rfl
  have zf1 := blk_froz c1 1
  have s2 : W1.cell? ⟨w.heap.size, 2, none⟩ = some (.slice nA0 nn0 nc0) := blk_cell b1 2 _ rfl
  have z2 : W1.cell? ⟨w.heap.size + 1, 2, none⟩ = some _ := blk_cell c1 2 _ rfl
  have zf2 := blk_froz c1 2
  go_wp2_with fail
  obtain ⟨X, hX⟩ : ∃ X, X = (((W1.setCell ⟨w.heap.size + 1, 0, none⟩ (.int .i64 x.id)).setCell ⟨w.heap.size + 1, 1, none⟩ (.string (strL x.name))).setCell ⟨w.heap.size + 1, 2, none⟩ (.slice nA0 nn0 nc0)) := ⟨_, rfl⟩
  have hgx : W1.grownBy X (some (w.heap.size + 1)) := by
    rw [hX]
    exact ((grown_set _ (w.heap.size + 1) 0 _).trans (grown_set _ (w.heap.size + 1) 1 _)).trans (grown_set _ (w.heap.size + 1) 2 _)
  have k0 := c1
  have k1 : (W1.setCell ⟨w.heap.size + 1, 0, none⟩ (.int .i64 x.id)).heap[w.heap.size + 1]? = some (.cells #[.int .i64 x.id, .string ⟨#[]⟩, .slice none 0 0] 114 (0, 0)) := blk_set k0 0 _
  have k2 : ((W1.setCell ⟨w.heap.size + 1, 0, none⟩ (.int .i64 x.id)).setCell ⟨w.heap.size + 1, 1, none⟩ (.string (strL x.name))).heap[w.heap.size + 1]? = some (.cells #[.int .i64 x.id, .string (strL x.name), .slice none 0 0] 114 (0, 0)) := blk_set k1 1 _
  have k3 : (((W1.setCell ⟨w.heap.size + 1, 0, none⟩ (.int .i64 x.id)).setCell ⟨w.heap.size + 1, 1, none⟩ (.string (strL x.name))).setCell ⟨w.heap.size + 1, 2, none⟩ (.slice nA0 nn0 nc0)).heap[w.heap.size + 1]? = some (.cells #[.int .i64 x.id, .string (strL x.name), .slice nA0 nn0 nc0] 114 (0, 0)) := blk_set k2 2 _
  have hcx : X.heap[w.heap.size + 1]? = some (.cells #[.int .i64 x.id, .string (strL x.name), .slice nA0 nn0 nc0] 114 (0, 0)) := by rw [hX]; exact k3
  have hbx : Below w.heap.size w X := hb1.trans ⟨hgx.os, hgx.tape, hgx.output, hgx.size, fun k hk => hgx.block k (by omega) (fun e => by injection e with e; omega)⟩
  have q0 := blk_cell hcx 0 _ rfl
  have q1 := blk_cell hcx 1 _ rfl
  have q2 := blk_cell hcx 2 _ rfl
  rw [← hX]
  refine bodyPost_ret (v := .agg #[.int .i64 x.id, .string (strL x.name), .slice nA0 nn0 nc0]) (by simp [results, Tryz.results111, go_sem, q0, q1, q2]) rfl ?_
  have lt10 : w.heap.size + 1 < W0.heap.size := Nat.lt_of_lt_of_le (Nat.lt_succ_self _) (show w.heap.size + 2 ≤ W0.heap.size from by first | exact hz0 | exact Nat.le_of_eq hz0)
  have hq0 := (hr0w.stay hgx le0_1 (fun k e => .inl (by injection e with e; rw [← e]; exact lt10))).widen (a2 := w.heap.size) (b2 := X.heap.size) (Nat.le_of_lt lt0) (Nat.le_trans le0_1 hgx.size)
  exact ⟨_, rfl, rfl, fun w2 B2 hs2 hb2 => ⟨_, rfl, h1, h2, hq0 w2 B2 hs2 hb2⟩, hbx⟩
set_option maxRecDepth 100000 in
set_option maxHeartbeats 8000000 in
theorem ke_state {w : World} {B : Nat} {cs : List Value} {x : StateD} (h : StateV B w cs x) (hB : B ≤ w.heap.size) (hs0 : x.cases.length ≤ 1000000) : Calls Tryz.prog 113 #[.agg cs.toArray] w (RetEl 5 StateV w x) := by
  obtain ⟨v0, rfl, h1, h2, h3, r0, h4⟩ := h
  obtain ⟨oA0, on0, oc0, rfl, _⟩ := r0.parts
  obtain ⟨W0, hW0⟩ : ∃ W, W = (w.alloc (.cells #[.int .i64 x.id, .int .i64 x.header, .int .i64 x.select, .slice oA0 on0 oc0, .int .i64 x.dflt] 172)).alloc (.cells #[.int .i64 0, .int .i64 0, .int .i64 0, .slice none 0 0, .int .i64 0] 172) := ⟨_, rfl⟩
  have hb0 : Below w.heap.size w W0 := by rw [hW0]; exact ((Below.refl w.heap.size w).alloc (by simp) _).alloc (by simp) _
  have hz0 : w.heap.size + 2 = W0.heap.size := by rw [hW0]; simp
  have b0 : W0.heap[w.heap.size]? = some (.cells #[.int .i64 x.id, .int .i64 x.header, .int .i64 x.select, .slice oA0 on0 oc0, .int .i64 x.dflt] 172 (0, 0)) := by
    rw [hW0]
    exact ((grown_alloc _ _ none).block _ (by simp) (by simp)).trans (heap_alloc_new _ _)
  have c0 : W0.heap[w.heap.size + 1]? = some (.cells #[.int .i64 0, .int .i64 0, .int .i64 0, .slice none 0 0, .int .i64 0] 172 (0, 0)) := by
    rw [hW0]
    rw [show w.heap.size + 1 = (w.alloc (.cells #[.int .i64 x.id, .int .i64 x.header, .int .i64 x.select, .slice oA0 on0 oc0, .int .i64 x.dflt] 172)).heap.size by simp]
    exact heap_alloc_new _ _
  have HW0 := Lib.hid hW0
  clear hW0
  have K0 : Hid (∀ W, Below w.heap.size w W → Calls Tryz.prog 160 #[.slice oA0 on0 oc0] W (RetClo 5 CaseV W (x.cases))) := Lib.hid fun W hb => kl_case (r0.below kept_case (hb.mono hB)) (Nat.le_trans hB hb.size) hs0
  clear r0
  go_enter Tryz.func113, Tryz.ntmps113
  go_upto_region 1 with fail
  rw [← HW0.out]
  have HB0 := Lib.hid hb0
  have e0 : W0.cell? ⟨w.heap.size, 3, none⟩ = some (.slice oA0 on0 oc0) := blk_cell b0 3 _ rfl
  go_upto_region 2 with (go_at_call 160; (with_reducible refine (K0.out _ HB0.out).mono ?_); rintro en u0 ⟨nA0, nn0, nc0, rfl, hr0, hd0⟩; have g0 := (hd0.block w.heap.size (by omega)).trans b0; have y0 := (hd0.block (w.heap.size + 1) (by omega)).trans c0; have t0 := blk_cell g0 3 _ rfl; have f0 := blk_froz g0 3)
  obtain ⟨W1, hW1⟩ : ∃ W, W = u0.setCell ⟨w.heap.size, 3, none⟩ (.slice nA0 nn0 nc0) := ⟨_, rfl⟩
  rw [← hW1]
  have hz1 : w.heap.size + 2 ≤ W1.heap.size := by rw [hW1]; have := hd0.size; simp; omega
  have hgs0 : u0.grownBy W1 (some w.heap.size) := by rw [hW1]; exact grown_set u0 w.heap.size 3 _
  have b1 : W1.heap[w.heap.size]? = some (.cells #[.int .i64 x.id, .int .i64 x.header, .int .i64 x.select, .slice nA0 nn0 nc0, .int .i64 x.dflt] 172 (0, 0)) := by rw [hW1]; exact blk_set g0 3 _
  have c1 : W1.heap[w.heap.size + 1]? = some (.cells #[.int .i64 0, .int .i64 0, .int .i64 0, .slice none 0 0, .int .i64 0] 172 (0, 0)) := (hgs0.block _ (by have := hd0.size; omega) (fun e => by injection e with e; omega)).trans y0
  have hb1 : Below w.heap.size w W1 := HB0.out.trans (⟨hgs0.os.trans hd0.os, hgs0.tape.trans hd0.tape, hgs0.output.trans hd0.output, Nat.le_trans hd0.size hgs0.size, fun k hk => (hgs0.block k (by have := hd0.size; have := HB0.out.size; omega) (fun e => by injection e with e; omega)).trans (hd0.block k (by have := HB0.out.size; omega))⟩)
  have lt0 : w.heap.size < W0.heap.size := Nat.lt_of_lt_of_le (by omega) (show w.heap.size + 2 ≤ W0.heap.size from by first | exact hz0 | exact Nat.le_of_eq hz0)
  have hr0w := hr0.stay hgs0 (Nat.le_refl _) (fun k e => .inl (by injection e with e; rw [← e]; exact lt0))
  have le0_1 : u0.heap.size ≤ W1.heap.size := hgs0.size
  clear e0 t0 f0 hW1
  have s0 : W1.cell? ⟨w.heap.size, 0, none⟩ = some (.int .i64 x.id) := blk_cell b1 0 _ rfl
  have z0 : W1.cell? ⟨w.heap.size + 1, 0, none⟩ = some _ := blk_cell c1 0 _ rfl
  have zf0 := blk_froz c1 0
  have s1 : W1.cell? ⟨w.heap.size, 1, none⟩ = some (.int .i64 x.header) := blk_cell b1 1 _ rfl
  have z1 : W1.cell? ⟨w.heap.size + 1, 1, none⟩ = some _ := blk_cell c1 1 _ rfl
  have zf1 := blk_froz c1 1
  have s2 : W1.cell? ⟨w.heap.size, 2, none⟩ = some (.int .i64 x.select) := blk_cell b1 2 _ rfl
  have z2 : W1.cell? ⟨w.heap.size + 1, 2, none⟩ = some _ := blk_cell c1 2 _ rfl
  have zf2 := blk_froz c1 2
  have s3 : W1.cell? ⟨w.heap.size, 3, none⟩ = some (.slice nA0 nn0 nc0) := blk_cell b1 3 _ rfl
  have z3 : W1.cell? ⟨w.heap.size + 1, 3, none⟩ = some _ := blk_cell c1 3 _ rfl
  have zf3 := blk_froz c1 3
  have s4 : W1.cell? ⟨w.heap.size, 4, none⟩ = some (.int .i64 x.dflt) := blk_cell b1 4 _ rfl
  have z4 : W1.cell? ⟨w.heap.size + 1, 4, none⟩ = some _ := blk_cell c1 4 _ rfl
  have zf4 := blk_froz c1 4
  go_wp2_with fail
  obtain ⟨X, hX⟩ : ∃ X, X = (((((W1.setCell ⟨w.heap.size + 1, 0, none⟩ (.int .i64 x.id)).setCell ⟨w.heap.size + 1, 1, none⟩ (.int .i64 x.header)).setCell ⟨w.heap.size + 1, 2, none⟩ (.int .i64 x.select)).setCell ⟨w.heap.size + 1, 3, none⟩ (.slice nA0 nn0 nc0)).setCell ⟨w.heap.size + 1, 4, none⟩ (.int .i64 x.dflt)) := ⟨_, rfl⟩
  have hgx : W1.grownBy X (some (w.heap.size + 1)) := by
    rw [hX]
    exact ((((grown_set _ (w.heap.size + 1) 0 _).trans (grown_set _ (w.heap.size + 1) 1 _)).trans (grown_set _ (w.heap.size + 1) 2 _)).trans (grown_set _ (w.heap.size + 1) 3 _)).trans (grown_set _ (w.heap.size + 1) 4 _)
  have k0 := c1
  have k1 : (W1.setCell ⟨w.heap.size + 1, 0, none⟩ (.int .i64 x.id)).heap[w.heap.size + 1]? = some (.cells #[.int .i64 x.id, .int .i64 0, .int .i64 0, .slice none 0 0, .int .i64 0] 172 (0, 0)) := blk_set k0 0 _
  have k2 : ((W1.setCell ⟨w.heap.size + 1, 0, none⟩ (.int .i64 x.id)).setCell ⟨w.heap.size + 1, 1, none⟩ (.int .i64 x.header)).heap[w.heap.size + 1]? = some (.cells #[.int .i64 x.id, .int .i64 x.header, .int .i64 0, .slice none 0 0, .int .i64 0] 172 (0, 0)) := blk_set k1 1 _
  have k3 : (((W1.setCell ⟨w.heap.size + 1, 0, none⟩ (.int .i64 x.id)).setCell ⟨w.heap.size + 1, 1, none⟩ (.int .i64 x.header)).setCell ⟨w.heap.size + 1, 2, none⟩ (.int .i64 x.select)).heap[w.heap.size + 1]? = some (.cells #[.int .i64 x.id, .int .i64 x.header, .int .i64 x.select, .slice none 0 0, .int .i64 0] 172 (0, 0)) := blk_set k2 2 _
  have k4 : ((((W1.setCell ⟨w.heap.size + 1, 0, none⟩ (.int .i64 x.id)).setCell ⟨w.heap.size + 1, 1, none⟩ (.int .i64 x.header)).setCell ⟨w.heap.size + 1, 2, none⟩ (.int .i64 x.select)).setCell ⟨w.heap.size + 1, 3, none⟩ (.slice nA0 nn0 nc0)).heap[w.heap.size + 1]? = some (.cells #[.int .i64 x.id, .int .i64 x.header, .int .i64 x.select, .slice nA0 nn0 nc0, .int .i64 0] 172 (0, 0)) := blk_set k3 3 _
  have k5 : (((((W1.setCell ⟨w.heap.size + 1, 0, none⟩ (.int .i64 x.id)).setCell ⟨w.heap.size + 1, 1, none⟩ (.int .i64 x.header)).setCell ⟨w.heap.size + 1, 2, none⟩ (.int .i64 x.select)).setCell ⟨w.heap.size + 1, 3, none⟩ (.slice nA0 nn0 nc0)).setCell ⟨w.heap.size + 1, 4, none⟩ (.int .i64 x.dflt)).heap[w.heap.size + 1]? = some (.cells #[.int .i64 x.id, .int .i64 x.header, .int .i64 x.select, .slice nA0 nn0 nc0, .int .i64 x.dflt] 172 (0, 0)) := blk_set k4 4 _
  have hcx : X.heap[w.heap.size + 1]? = some (.cells #[.int .i64 x.id, .int .i64 x.header, .int .i64 x.select, .slice nA0 nn0 nc0, .int .i64 x.dflt] 172 (0, 0)) := by rw [hX]; exact k5
  have hbx : Below w.heap.size w X := hb1.trans ⟨hgx.os, hgx.tape, hgx.output, hgx.size, fun k hk => hgx.block k (by omega) (fun e => by injection e with e; omega)⟩
  have q0 := blk_cell hcx 0 _ rfl
  have q1 := blk_cell hcx 1 _ rfl
  have q2 := blk_cell hcx 2 _ rfl
  have q3 := blk_cell hcx 3 _ rfl
  have q4 := blk_cell hcx 4 _ rfl
  rw [← hX]
  refine bodyPost_ret (v := .agg #[.int .i64 x.id, .int .i64 x.header, .int .i64 x.select, .slice nA0 nn0 nc0, .int .i64 x.dflt]) (by simp [results, Tryz.results113, go_sem, q0, q1, q2, q3, q4]) rfl ?_
  have lt10 : w.heap.size + 1 < W0.heap.size := Nat.lt_of_lt_of_le (Nat.lt_succ_self _) (show w.heap.size + 2 ≤ W0.heap.size from by first | exact hz0 | exact Nat.le_of_eq hz0)
  have hq0 := (hr0w.stay hgx le0_1 (fun k e => .inl (by injection e with e; rw [← e]; exact lt10))).widen (a2 := w.heap.size) (b2 := X.heap.size) (Nat.le_of_lt lt0) (Nat.le_trans le0_1 hgx.size)
  exact ⟨_, rfl, rfl, fun w2 B2 hs2 hb2 => ⟨_, rfl, h1, h2, h3, hq0 w2 B2 hs2 hb2, h4⟩, hbx⟩
set_option maxRecDepth 100000 in
set_option maxHeartbeats 8000000 in
theorem ke_action {w : World} {B : Nat} {cs : List Value} {x : ActionD} (h : ActionV B w cs x) (hB : B ≤ w.heap.size) (hs0 : x.params.length ≤ 1000000) (hs1 : x.body.length ≤ 1000000) : Calls Tryz.prog 115 #[.agg cs.toArray] w (RetEl 5 ActionV w x) := by
  obtain ⟨v0, v1, rfl, h1, h2, r0, r1, h3⟩ := h
  obtain ⟨oA0, on0, oc0, rfl, _⟩ := r0.parts
  obtain ⟨oA1, on1, oc1, rfl, _⟩ := r1.parts
  obtain ⟨W0, hW0⟩ : ∃ W, W = (w.alloc (.cells #[.int .i64 x.id, .string (strL x.name), .slice oA0 on0 oc0, .slice oA1 on1 oc1, .string (strL x.restr)] 142)).alloc (.cells #[.int .i64 0, .string ⟨#[]⟩, .slice none 0 0, .slice none 0 0, .string ⟨#[]⟩] 142) := ⟨_, rfl⟩
  have hb0 : Below w.heap.size w W0 := by rw [hW0]; exact ((Below.refl w.heap.size w).alloc (by simp) _).alloc (by simp) _
  have hz0 : w.heap.size + 2 = W0.heap.size := by rw [hW0]; simp
  have b0 : W0.heap[w.heap.size]? = some (.cells #[.int .i64 x.id, .string (strL x.name), .slice oA0 on0 oc0, .slice oA1 on1 oc1, .string (strL x.restr)] 142 (0, 0)) := by
    rw [hW0]
    exact ((grown_alloc _ _ none).block _ (by simp) (by simp)).trans (heap_alloc_new _ _)
  have c0 : W0.heap[w.heap.size + 1]? = some (.cells #[.int .i64 0, .string ⟨#[]⟩, .slice none 0 0, .slice none 0 0, .string ⟨#[]⟩] 142 (0, 0)) := by
    rw [hW0]
    rw [show w.heap.size + 1 = (w.alloc (.cells #[.int .i64 x.id, .string (strL x.name), .slice oA0 on0 oc0, .slice oA1 on1 oc1, .string (strL x.restr)] 142)).heap.size by simp]
    exact heap_alloc_new _ _
  have HW0 := Lib.hid hW0
  clear hW0
  have K0 : Hid (∀ W, Below w.heap.size w W → Calls Tryz.prog 161 #[.slice oA0 on0 oc0] W (RetClo 2 ParamV W (x.params))) := Lib.hid fun W hb => kl_param (r0.below kept_param (hb.mono hB)) (Nat.le_trans hB hb.size) hs0
  have K1 : Hid (∀ W, Below w.heap.size w W → Calls Tryz.prog 162 #[.slice oA1 on1 oc1] W (RetClo 6 PrimV W (x.body))) := Lib.hid fun W hb => kl_prim (r1.below kept_prim (hb.mono hB)) (Nat.le_trans hB hb.size) hs1
  clear r0 r1
  go_enter Tryz.func115, Tryz.ntmps115
  go_upto_region 1 with fail
  rw [← HW0.out]
  have HB0 := Lib.hid hb0
  have e0 : W0.cell? ⟨w.heap.size, 2, none⟩ = some (.slice oA0 on0 oc0) := blk_cell b0 2 _ rfl
  go_upto_region 2 with (go_at_call 161; (with_reducible refine (K0.out _ HB0.out).mono ?_); rintro en u0 ⟨nA0, nn0, nc0, rfl, hr0, hd0⟩; have g0 := (hd0.block w.heap.size (by omega)).trans b0; have y0 := (hd0.block (w.heap.size + 1) (by omega)).trans c0; have t0 := blk_cell g0 2 _ rfl; have f0 := blk_froz g0 2)
  obtain ⟨W1, hW1⟩ : ∃ W, W = u0.setCell ⟨w.heap.size, 2, none⟩ (.slice nA0 nn0 nc0) := ⟨_, rfl⟩
  rw [← hW1]
  have hz1 : w.heap.size + 2 ≤ W1.heap.size := by rw [hW1]; have := hd0.size; simp; omega
  have hgs0 : u0.grownBy W1 (some w.heap.size) := by rw [hW1]; exact grown_set u0 w.heap.size 2 _
  have b1 : W1.heap[w.heap.size]? = some (.cells #[.int .i64 x.id, .string (strL x.name), .slice nA0 nn0 nc0, .slice oA1 on1 oc1, .string (strL x.restr)] 142 (0, 0)) := by rw [hW1]; exact blk_set g0 2 _
  have c1 : W1.heap[w.heap.size + 1]? = some (.cells #[.int .i64 0, .string ⟨#[]⟩, .slice none 0 0, .slice none 0 0, .string ⟨#[]⟩] 142 (0, 0)) := (hgs0.block _ (by have := hd0.size; omega) (fun e => by injection e with e; omega)).trans y0
  have hb1 : Below w.heap.size w W1 := HB0.out.trans (⟨hgs0.os.trans hd0.os, hgs0.tape.trans hd0.tape, hgs0.output.trans hd0.output, Nat.le_trans hd0.size hgs0.size, fun k hk => (hgs0.block k (by have := hd0.size; have := HB0.out.size; omega) (fun e => by injection e with e; omega)).trans (hd0.block k (by have := HB0.out.size; omega))⟩)
  have lt0 : w.heap.size < W0.heap.size := Nat.lt_of_lt_of_le (by omega) (show w.heap.size + 2 ≤ W0.heap.size from by first | exact hz0 | exact Nat.le_of_eq hz0)
  have hr0w := hr0.stay hgs0 (Nat.le_refl _) (fun k e => .inl (by injection e with e; rw [← e]; exact lt0))
  have le0_1 : u0.heap.size ≤ W1.heap.size := hgs0.size
  clear e0 t0 f0 hW1
  have HB1 := Lib.hid hb1
  have e1 : W1.cell? ⟨w.heap.size, 3, none⟩ = some (.slice oA1 on1 oc1) := blk_cell b1 3 _ rfl
  go_upto_region 3 with (go_at_call 162; (with_reducible refine (K1.out _ HB1.out).mono ?_); rintro en u1 ⟨nA1, nn1, nc1, rfl, hr1, hd1⟩; have g1 := (hd1.block w.heap.size (by omega)).trans b1; have y1 := (hd1.block (w.heap.size + 1) (by omega)).trans c1; have t1 := blk_cell g1 3 _ rfl; have f1 := blk_froz g1 3)
  obtain ⟨W2, hW2⟩ : ∃ W, W = u1.setCell ⟨w.heap.size, 3, none⟩ (.slice nA1 nn1 nc1) := ⟨_, rfl⟩
  rw [← hW2]
  have hz2 : w.heap.size + 2 ≤ W2.heap.size := by rw [hW2]; have := hd1.size; simp; omega
  have hgs1 : u1.grownBy W2 (some w.heap.size) := by rw [hW2]; exact grown_set u1 w.heap.size 3 _
  have b2 : W2.heap[w.heap.size]? = some (.cells #[.int .i64 x.id, .string (strL x.name), .slice nA0 nn0 nc0, .slice nA1 nn1 nc1, .string (strL x.restr)] 142 (0, 0)) := by rw [hW2]; exact blk_set g1 3 _
  have c2 : W2.heap[w.heap.size + 1]? = some (.cells #[.int .i64 0, .string ⟨#[]⟩, .slice none 0 0, .slice none 0 0, .string ⟨#[]⟩] 142 (0, 0)) := (hgs1.block _ (by have := hd1.size; omega) (fun e => by injection e with e; omega)).trans y1
  have hb2 : Below w.heap.size w W2 := HB1.out.trans (⟨hgs1.os.trans hd1.os, hgs1.tape.trans hd1.tape, hgs1.output.trans hd1.output, Nat.le_trans hd1.size hgs1.size, fun k hk => (hgs1.block k (by have := hd1.size; have := HB1.out.size; omega) (fun e => by injection e with e; omega)).trans (hd1.block k (by have := HB1.out.size; omega))⟩)
  have lt1 : w.heap.size < W1.heap.size := Nat.lt_of_lt_of_le (by omega) (show w.heap.size + 2 ≤ W1.heap.size from by first | exact hz1 | exact Nat.le_of_eq hz1)
  have hr1w := hr1.stay hgs1 (Nat.le_refl _) (fun k e => .inl (by injection e with e; rw [← e]; exact lt1))
  have le1_2 : u1.heap.size ≤ W2.heap.size := hgs1.size
  have le0_1u : u0.heap.size ≤ u1.heap.size := Nat.le_trans le0_1 hd1.size
  have le0_2 : u0.heap.size ≤ W2.heap.size := Nat.le_trans le0_1u hgs1.size
  have hr0x1 := (hr0w.stay (grown_of_below hd1 none) le0_1 (fun k e => by cases e)).stay hgs1 le0_1u (fun k e => .inl (by injection e with e; rw [← e]; exact lt0))
  clear e1 t1 f1 hW2
  have s0 : W2.cell? ⟨w.heap.size, 0, none⟩ = some (.int .i64 x.id) := blk_cell b2 0 _ rfl
  have z0 : W2.cell? ⟨w.heap.size + 1, 0, none⟩ = some _ := blk_cell c2 0 _ rfl
  have zf0 := blk_froz c2 0
  have s1 : W2.cell? ⟨w.heap.size, 1, none⟩ = some (.string (strL x.name)) := blk_cell b2 1 _ rfl
  have z1 : W2.cell? ⟨w.heap.size + 1, 1, none⟩ = some _ := blk_cell c2 1 _ rfl
  have zf1 := blk_froz c2 1
  have s2 : W2.cell? ⟨w.heap.size, 2, none⟩ = some (.slice nA0 nn0 nc0) := blk_cell b2 2 _ rfl
  have z2 : W2.cell? ⟨w.heap.size + 1, 2, none⟩ = some _ := blk_cell c2 2 _ rfl
  have zf2 := blk_froz c2 2
  have s3 : W2.cell? ⟨w.heap.size, 3, none⟩ = some (.slice nA1 nn1 nc1) := blk_cell b2 3 _ rfl
  have z3 : W2.cell? ⟨w.heap.size + 1, 3, none⟩ = some _ := blk_cell c2 3 _ rfl
  have zf3 := blk_froz c2 3
  have s4 : W2.cell? ⟨w.heap.size, 4, none⟩ = some (.string (strL x.restr)) := blk_cell b2 4 _ rfl
  have z4 : W2.cell? ⟨w.heap.size + 1, 4, none⟩ = some _ := blk_cell c2 4 _ rfl
  have zf4 := blk_froz c2 4
  go_wp2_with fail
  obtain ⟨X, hX⟩ : ∃ X, X = (((((W2.setCell ⟨w.heap.size + 1, 0, none⟩ (.int .i64 x.id)).setCell ⟨w.heap.size + 1, 1, none⟩ (.string (strL x.name))).setCell ⟨w.heap.size + 1, 2, none⟩ (.slice nA0 nn0 nc0)).setCell ⟨w.heap.size + 1, 3, none⟩ (.slice nA1 nn1 nc1)).setCell ⟨w.heap.size + 1, 4, none⟩ (.string (strL x.restr))) := ⟨_, rfl⟩
  have hgx : W2.grownBy X (some (w.heap.size + 1)) := by
    rw [hX]
    exact ((((grown_set _ (w.heap.size + 1) 0 _).trans (grown_set _ (w.heap.size + 1) 1 _)).trans (grown_set _ (w.heap.size + 1) 2 _)).trans (grown_set _ (w.heap.size + 1) 3 _)).trans (grown_set _ (w.heap.size + 1) 4 _)
  have k0 := c2
  have k1 : (W2.setCell ⟨w.heap.size + 1, 0, none⟩ (.int .i64 x.id)).heap[w.heap.size + 1]? = some (.cells #[.int .i64 x.id, .string ⟨#[]⟩, .slice none 0 0, .slice none 0 0, .string ⟨#[]⟩] 142 (0, 0)) := blk_set k0 0 _
  have k2 : ((W2.setCell ⟨w.heap.size + 1, 0, none⟩ (.int .i64 x.id)).setCell ⟨w.heap.size + 1, 1, none⟩ (.string (strL x.name))).heap[w.heap.size + 1]? = some (.cells #[.int .i64 x.id, .string (strL x.name), .slice none 0 0, .slice none 0 0, .string ⟨#[]⟩] 142 (0, 0)) := blk_set k1 1 _
  have k3 : (((W2.setCell ⟨w.heap.size + 1, 0, none⟩ (.int .i64 x.id)).setCell ⟨w.heap.size + 1, 1, none⟩ (.string (strL x.name))).setCell ⟨w.heap.size + 1, 2, none⟩ (.slice nA0 nn0 nc0)).heap[w.heap.size + 1]? = some (.cells #[.int .i64 x.id, .string (strL x.name), .slice nA0 nn0 nc0, .slice none 0 0, .string ⟨#[]⟩] 142 (0, 0)) := blk_set k2 2 _
  have k4 : ((((W2.setCell ⟨w.heap.size + 1, 0, none⟩ (.int .i64 x.id)).setCell ⟨w.heap.size + 1, 1, none⟩ (.string (strL x.name))).setCell ⟨w.heap.size + 1, 2, none⟩ (.slice nA0 nn0 nc0)).setCell ⟨w.heap.size + 1, 3, none⟩ (.slice nA1 nn1 nc1)).heap[w.heap.size + 1]? = some (.cells #[.int .i64 x.id, .string (strL x.name), .slice nA0 nn0 nc0, .slice nA1 nn1 nc1, .string ⟨#[]⟩] 142 (0, 0)) := blk_set k3 3 _
  have k5 : (((((W2.setCell ⟨w.heap.size + 1, 0, none⟩ (.int .i64 x.id)).setCell ⟨w.heap.size + 1, 1, none⟩ (.string (strL x.name))).setCell ⟨w.heap.size + 1, 2, none⟩ (.slice nA0 nn0 nc0)).setCell ⟨w.heap.size + 1, 3, none⟩ (.slice nA1 nn1 nc1)).setCell ⟨w.heap.size + 1, 4, none⟩ (.string (strL x.restr))).heap[w.heap.size + 1]? = some (.cells #[.int .i64 x.id, .string (strL x.name), .slice nA0 nn0 nc0, .slice nA1 nn1 nc1, .string (strL x.restr)] 142 (0, 0)) := blk_set k4 4 _
  have hcx : X.heap[w.heap.size + 1]? = some (.cells #[.int .i64 x.id, .string (strL x.name), .slice nA0 nn0 nc0, .slice nA1 nn1 nc1, .string (strL x.restr)] 142 (0, 0)) := by rw [hX]; exact k5
  have hbx : Below w.heap.size w X := hb2.trans ⟨hgx.os, hgx.tape, hgx.output, hgx.size, fun k hk => hgx.block k (by omega) (fun e => by injection e with e; omega)⟩
  have q0 := blk_cell hcx 0 _ rfl
  have q1 := blk_cell hcx 1 _ rfl
  have q2 := blk_cell hcx 2 _ rfl
  have q3 := blk_cell hcx 3 _ rfl
  have q4 := blk_cell hcx 4 _ rfl
  rw [← hX]
  refine bodyPost_ret (v := .agg #[.int .i64 x.id, .string (strL x.name), .slice nA0 nn0 nc0, .slice nA1 nn1 nc1, .string (strL x.restr)]) (by simp [results, Tryz.results115, go_sem, q0, q1, q2, q3, q4]) rfl ?_
  have lt10 : w.heap.size + 1 < W0.heap.size := Nat.lt_of_lt_of_le (Nat.lt_succ_self _) (show w.heap.size + 2 ≤ W0.heap.size from by first | exact hz0 | exact Nat.le_of_eq hz0)
  have hq0 := (hr0x1.stay hgx le0_2 (fun k e => .inl (by injection e with e; rw [← e]; exact lt10))).widen (a2 := w.heap.size) (b2 := X.heap.size) (Nat.le_of_lt lt0) (Nat.le_trans le0_2 hgx.size)
  have lt11 : w.heap.size + 1 < W1.heap.size := Nat.lt_of_lt_of_le (Nat.lt_succ_self _) (show w.heap.size + 2 ≤ W1.heap.size from by first | exact hz1 | exact Nat.le_of_eq hz1)
  have hq1 := (hr1w.stay hgx le1_2 (fun k e => .inl (by injection e with e; rw [← e]; exact lt11))).widen (a2 := w.heap.size) (b2 := X.heap.size) (Nat.le_of_lt lt1) (Nat.le_trans le1_2 hgx.size)
  exact ⟨_, rfl, rfl, fun w2 B2 hs2 hb2 => ⟨_, _, rfl, h1, h2, hq0 w2 B2 hs2 hb2, hq1 w2 B2 hs2 hb2, h3⟩, hbx⟩
set_option maxRecDepth 100000 in
set_option maxHeartbeats 8000000 in
theorem ke_table {w : World} {B : Nat} {cs : List Value} {x : TableD} (h : TableV B w cs x) (hB : B ≤ w.heap.size) (hs0 : x.keys.length ≤ 1000000) (hs1 : x.actions.length ≤ 1000000) (hs2 : x.args.length ≤ 1000000) : Calls Tryz.prog 117 #[.agg cs.toArray] w (RetEl 8 TableV w x) := by
  obtain ⟨v0, v1, v2, rfl, h1, h2, r0, r1, h3, r2, h4, h5⟩ := h
  obtain ⟨oA0, on0, oc0, rfl, _⟩ := r0.parts
  obtain ⟨oA1, on1, oc1, rfl, _⟩ := r1.parts
  obtain ⟨oA2, on2, oc2, rfl, _⟩ := r2.parts
  obtain ⟨W0, hW0⟩ : ∃ W, W = (w.alloc (.cells #[.int .i64 x.id, .string (strL x.name), .slice oA0 on0 oc0, .slice oA1 on1 oc1, .int .i64 x.dflt, .slice oA2 on2 oc2, .int .i64 x.size, .string (strL x.restr)] 59)).alloc (.cells #[.int .i64 0, .string ⟨#[]⟩, .slice none 0 0, .slice none 0 0, .int .i64 0, .slice none 0 0, .int .i64 0, .string ⟨#[]⟩] 59) := ⟨_, rfl⟩
  have hb0 : Below w.heap.size w W0 := by rw [hW0]; exact ((Below.refl w.heap.size w).alloc (by simp) _).alloc (by simp) _
  have hz0 : w.heap.size + 2 = W0.heap.size := by rw [hW0]; simp
  have b0 : W0.heap[w.heap.size]? = some (.cells #[.int .i64 x.id, .string (strL x.name), .slice oA0 on0 oc0, .slice oA1 on1 oc1, .int .i64 x.dflt, .slice oA2 on2 oc2, .int .i64 x.size, .string (strL x.restr)] 59 (0, 0)) := by
    rw [hW0]
    exact ((grown_alloc _ _ none).block _ (by simp) (by simp)).trans (heap_alloc_new _ _)
  have c0 : W0.heap[w.heap.size + 1]? = some (.cells #[.int .i64 0, .string ⟨#[]⟩, .slice none 0 0, .slice none 0 0, .int .i64 0, .slice none 0 0, .int .i64 0, .string ⟨#[]⟩] 59 (0, 0)) := by
    rw [hW0]
    rw [show w.heap.size + 1 = (w.alloc (.cells #[.int .i64 x.id, .string (strL x.name), .slice oA0 on0 oc0, .slice oA1 on1 oc1, .int .i64 x.dflt, .slice oA2 on2 oc2, .int .i64 x.size, .string (strL x.restr)] 59)).heap.size by simp]
    exact heap_alloc_new _ _
  have HW0 := Lib.hid hW0
  clear hW0
  have K0 : Hid (∀ W, Below w.heap.size w W → Calls Tryz.prog 123 #[.slice oA0 on0 oc0] W (RetClo 3 KeyV W (x.keys))) := Lib.hid fun W hb => kl_key (r0.below kept_key (hb.mono hB)) (Nat.le_trans hB hb.size) hs0
  have K1 : Hid (∀ W, Below w.heap.size w W → Calls Tryz.prog 159 #[.slice oA1 on1 oc1] W (RetClo 1 I64V W (x.actions))) := Lib.hid fun W hb => kl_int (r1.below kept_int (hb.mono hB)) (Nat.le_trans hB hb.size) hs1
  have K2 : Hid (∀ W, Below w.heap.size w W → Calls Tryz.prog 163 #[.slice oA2 on2 oc2] W (RetClo 2 ValV W (x.args))) := Lib.hid fun W hb => kl_val (r2.below kept_val (hb.mono hB)) (Nat.le_trans hB hb.size) hs2
  clear r0 r1 r2
  go_enter Tryz.func117, Tryz.ntmps117
  go_upto_region 1 with fail
  rw [← HW0.out]
  have HB0 := Lib.hid hb0
  have e0 : W0.cell? ⟨w.heap.size, 2, none⟩ = some (.slice oA0 on0 oc0) := blk_cell b0 2 _ rfl
  go_upto_region 2 with (go_at_call 123; (with_reducible refine (K0.out _ HB0.out).mono ?_); rintro en u0 ⟨nA0, nn0, nc0, rfl, hr0, hd0⟩; have g0 := (hd0.block w.heap.size (by omega)).trans b0; have y0 := (hd0.block (w.heap.size + 1) (by omega)).trans c0; have t0 := blk_cell g0 2 _ rfl; have f0 := blk_froz g0 2)
  obtain ⟨W1, hW1⟩ : ∃ W, W = u0.setCell ⟨w.heap.size, 2, none⟩ (.slice nA0 nn0 nc0) := ⟨_, rfl⟩
  rw [← hW1]
  have hz1 : w.heap.size + 2 ≤ W1.heap.size := by rw [hW1]; have := hd0.size; simp; omega
  have hgs0 : u0.grownBy W1 (some w.heap.size) := by rw [hW1]; exact grown_set u0 w.heap.size 2 _
  have b1 : W1.heap[w.heap.size]? = some (.cells #[.int .i64 x.id, .string (strL x.name), .slice nA0 nn0 nc0, .slice oA1 on1 oc1, .int .i64 x.dflt, .slice oA2 on2 oc2, .int .i64 x.size, .string (strL x.restr)] 59 (0, 0)) := by rw [hW1]; exact blk_set g0 2 _
  have c1 : W1.heap[w.heap.size + 1]? = some (.cells #[.int .i64 0, .string ⟨#[]⟩, .slice none 0 0, .slice none 0 0, .int .i64 0, .slice none 0 0, .int .i64 0, .string ⟨#[]⟩] 59 (0, 0)) := (hgs0.block _ (by have := hd0.size; omega) (fun e => by injection e with e; omega)).trans y0
  have hb1 : Below w.heap.size w W1 := HB0.out.trans (⟨hgs0.os.trans hd0.os, hgs0.tape.trans hd0.tape, hgs0.output.trans hd0.output, Nat.le_trans hd0.size hgs0.size, fun k hk => (hgs0.block k (by have := hd0.size; have := HB0.out.size; omega) (fun e => by injection e with e; omega)).trans (hd0.block k (by have := HB0.out.size; omega))⟩)
  have lt0 : w.heap.size < W0.heap.size := Nat.lt_of_lt_of_le (by omega) (show w.heap.size + 2 ≤ W0.heap.size from by first | exact hz0 | exact Nat.le_of_eq hz0)
  have hr0w := hr0.stay hgs0 (Nat.le_refl _) (fun k e => .inl (by injection e with e; rw [← e]; exact lt0))
  have le0_1 : u0.heap.size ≤ W1.heap.size := hgs0.size
  clear e0 t0 f0 hW1
  have HB1 := Lib.hid hb1
  have e1 : W1.cell? ⟨w.heap.size, 3, none⟩ = some (.slice oA1 on1 oc1) := blk_cell b1 3 _ rfl
  go_upto_region 3 with (go_at_call 159; (with_reducible refine (K1.out _ HB1.out).mono ?_); rintro en u1 ⟨nA1, nn1, nc1, rfl, hr1, hd1⟩; have g1 := (hd1.block w.heap.size (by omega)).trans b1; have y1 := (hd1.block (w.heap.size + 1) (by omega)).trans c1; have t1 := blk_cell g1 3 _ rfl; have f1 := blk_froz g1 3)
  obtain ⟨W2, hW2⟩ : ∃ W, W = u1.setCell ⟨w.heap.size, 3, none⟩ (.slice nA1 nn1 nc1) := ⟨_, rfl⟩
  rw [← hW2]
  have hz2 : w.heap.size + 2 ≤ W2.heap.size := by rw [hW2]; have := hd1.size; simp; omega
  have hgs1 : u1.grownBy W2 (some w.heap.size) := by rw [hW2]; exact grown_set u1 w.heap.size 3 _
  have b2 : W2.heap[w.heap.size]? = some (.cells #[.int .i64 x.id, .string (strL x.name), .slice nA0 nn0 nc0, .slice nA1 nn1 nc1, .int .i64 x.dflt, .slice oA2 on2 oc2, .int .i64 x.size, .string (strL x.restr)] 59 (0, 0)) := by rw [hW2]; exact blk_set g1 3 _
  have c2 : W2.heap[w.heap.size + 1]? = some (.cells #[.int .i64 0, .string ⟨#[]⟩, .slice none 0 0, .slice none 0 0, .int .i64 0, .slice none 0 0, .int .i64 0, .string ⟨#[]⟩] 59 (0, 0)) := (hgs1.block _ (by have := hd1.size; omega) (fun e => by injection e with e; omega)).trans y1
  have hb2 : Below w.heap.size w W2 := HB1.out.trans (⟨hgs1.os.trans hd1.os, hgs1.tape.trans hd1.tape, hgs1.output.trans hd1.output, Nat.le_trans hd1.size hgs1.size, fun k hk => (hgs1.block k (by have := hd1.size; have := HB1.out.size; omega) (fun e => by injection e with e; omega)).trans (hd1.block k (by have := HB1.out.size; omega))⟩)
  have lt1 : w.heap.size < W1.heap.size := Nat.lt_of_lt_of_le (by omega) (show w.heap.size + 2 ≤ W1.heap.size from by first | exact hz1 | exact Nat.le_of_eq hz1)
  have hr1w := hr1.stay hgs1 (Nat.le_refl _) (fun k e => .inl (by injection e with e; rw [← e]; exact lt1))
  have le1_2 : u1.heap.size ≤ W2.heap.size := hgs1.size
  have le0_1u : u0.heap.size ≤ u1.heap.size := Nat.le_trans le0_1 hd1.size
  have le0_2 : u0.heap.size ≤ W2.heap.size := Nat.le_trans le0_1u hgs1.size
  have hr0x1 := (hr0w.stay (grown_of_below hd1 none) le0_1 (fun k e => by cases e)).stay hgs1 le0_1u (fun k e => .inl (by injection e with e; rw [← e]; exact lt0))
  clear e1 t1 f1 hW2
  have HB2 := Lib.hid hb2
  have e2 : W2.cell? ⟨w.heap.size, 5, none⟩ = some (.slice oA2 on2 oc2) := blk_cell b2 5 _ rfl
  go_upto_region 4 with (go_at_call 163; (with_reducible refine (K2.out _ HB2.out).mono ?_); rintro en u2 ⟨nA2, nn2, nc2, rfl, hr2, hd2⟩; have g2 := (hd2.block w.heap.size (by omega)).trans b2; have y2 := (hd2.block (w.heap.size + 1) (by omega)).trans c2; have t2 := blk_cell g2 5 _ rfl; have f2 := blk_froz g2 5)
  obtain ⟨W3, hW3⟩ : ∃ W, W = u2.setCell ⟨w.heap.size, 5, none⟩ (.slice nA2 nn2 nc2) := ⟨_, rfl⟩
  rw [← hW3]
  have hz3 : w.heap.size + 2 ≤ W3.heap.size := by rw [hW3]; have := hd2.size; simp; omega
  have hgs2 : u2.grownBy W3 (some w.heap.size) := by rw [hW3]; exact grown_set u2 w.heap.size 5 _
  have b3 : W3.heap[w.heap.size]? = some (.cells #[.int .i64 x.id, .string (strL x.name), .slice nA0 nn0 nc0, .slice nA1 nn1 nc1, .int .i64 x.dflt, .slice nA2 nn2 nc2, .int .i64 x.size, .string (strL x.restr)] 59 (0, 0)) := by rw [hW3]; exact blk_set g2 5 _
  have c3 : W3.heap[w.heap.size + 1]? = some (.cells #[.int .i64 0, .string ⟨#[]⟩, .slice none 0 0, .slice none 0 0, .int .i64 0, .slice none 0 0, .int .i64 0, .string ⟨#[]⟩] 59 (0, 0)) := (hgs2.block _ (by have := hd2.size; omega) (fun e => by injection e with e; omega)).trans y2
  have hb3 : Below w.heap.size w W3 := HB2.out.trans (⟨hgs2.os.trans hd2.os, hgs2.tape.trans hd2.tape, hgs2.output.trans hd2.output, Nat.le_trans hd2.size hgs2.size, fun k hk => (hgs2.block k (by have := hd2.size; have := HB2.out.size; omega) (fun e => by injection e with e; omega)).trans (hd2.block k (by have := HB2.out.size; omega))⟩)
  have lt2 : w.heap.size < W2.heap.size := Nat.lt_of_lt_of_le (by omega) (show w.heap.size + 2 ≤ W2.heap.size from by first | exact hz2 | exact Nat.le_of_eq hz2)
  have hr2w := hr2.stay hgs2 (Nat.le_refl _) (fun k e => .inl (by injection e with e; rw [← e]; exact lt2))
  have le2_3 : u2.heap.size ≤ W3.heap.size := hgs2.size
  have le0_2u : u0.heap.size ≤ u2.heap.size := Nat.le_trans le0_2 hd2.size
  have le0_3 : u0.heap.size ≤ W3.heap.size := Nat.le_trans le0_2u hgs2.size
  have hr0x2 := (hr0x1.stay (grown_of_below hd2 none) le0_2 (fun k e => by cases e)).stay hgs2 le0_2u (fun k e => .inl (by injection e with e; rw [← e]; exact lt0))
  have le1_2u : u1.heap.size ≤ u2.heap.size := Nat.le_trans le1_2 hd2.size
  have le1_3 : u1.heap.size ≤ W3.heap.size := Nat.le_trans le1_2u hgs2.size
  have hr1x2 := (hr1w.stay (grown_of_below hd2 none) le1_2 (fun k e => by cases e)).stay hgs2 le1_2u (fun k e => .inl (by injection e with e; rw [← e]; exact lt1))
  clear e2 t2 f2 hW3
  have s0 : W3.cell? ⟨w.heap.size, 0, none⟩ = some (.int .i64 x.id) := blk_cell b3 0 _ rfl
  have z0 : W3.cell? ⟨w.heap.size + 1, 0, none⟩ = some _ := blk_cell c3 0 _ rfl
  have zf0 := blk_froz c3 0
  have s1 : W3.cell? ⟨w.heap.size, 1, none⟩ = some (.string (strL x.name)) := blk_cell b3 1 _ rfl
  have z1 : W3.cell? ⟨w.heap.size + 1, 1, none⟩ = some _ := blk_cell c3 1 _ rfl
  have zf1 := blk_froz c3 1
  have s2 : W3.cell? ⟨w.heap.size, 2, none⟩ = some (.slice nA0 nn0 nc0) := blk_cell b3 2 _ rfl
  have z2 : W3.cell? ⟨w.heap.size + 1, 2, none⟩ = some _ := blk_cell c3 2 _ rfl
  have zf2 := blk_froz c3 2
  have s3 : W3.cell? ⟨w.heap.size, 3, none⟩ = some (.slice nA1 nn1 nc1) := blk_cell b3 3 _ rfl
  have z3 : W3.cell? ⟨w.heap.size + 1, 3, none⟩ = some _ := blk_cell c3 3 _ rfl
  have zf3 := blk_froz c3 3
  have s4 : W3.cell? ⟨w.heap.size, 4, none⟩ = some (.int .i64 x.dflt) := blk_cell b3 4 _ rfl
  have z4 : W3.cell? ⟨w.heap.size + 1, 4, none⟩ = some _ := blk_cell c3 4 _ rfl
  have zf4 := blk_froz c3 4
  have s5 : W3.cell? ⟨w.heap.size, 5, none⟩ = some (.slice nA2 nn2 nc2) := blk_cell b3 5 _ rfl
  have z5 : W3.cell? ⟨w.heap.size + 1, 5, none⟩ = some _ := blk_cell c3 5 _ rfl
  have zf5 := blk_froz c3 5
  have s6 : W3.cell? ⟨w.heap.size, 6, none⟩ = some (.int .i64 x.size) := blk_cell b3 6 _ rfl
  have z6 : W3.cell? ⟨w.heap.size + 1, 6, none⟩ = some _ := blk_cell c3 6 _ rfl
  have zf6 := blk_froz c3 6
  have s7 : W3.cell? ⟨w.heap.size, 7, none⟩ = some (.string (strL x.restr)) := blk_cell b3 7 _ rfl
  have z7 : W3.cell? ⟨w.heap.size + 1, 7, none⟩ = some _ := blk_cell c3 7 _ rfl
  have zf7 := blk_froz c3 7
  go_wp2_with fail
  obtain ⟨X, hX⟩ : ∃ X, X = ((((((((W3.setCell ⟨w.heap.size + 1, 0, none⟩ (.int .i64 x.id)).setCell ⟨w.heap.size + 1, 1, none⟩ (.string (strL x.name))).setCell ⟨w.heap.size + 1, 2, none⟩ (.slice nA0 nn0 nc0)).setCell ⟨w.heap.size + 1, 3, none⟩ (.slice nA1 nn1 nc1)).setCell ⟨w.heap.size + 1, 4, none⟩ (.int .i64 x.dflt)).setCell ⟨w.heap.size + 1, 5, none⟩ (.slice nA2 nn2 nc2)).setCell ⟨w.heap.size + 1, 6, none⟩ (.int .i64 x.size)).setCell ⟨w.heap.size + 1, 7, none⟩ (.string (strL x.restr))) := ⟨_, rfl⟩
  have hgx : W3.grownBy X (some (w.heap.size + 1)) := by
    rw [hX]
    exact (((((((grown_set _ (w.heap.size + 1) 0 _).trans (grown_set _ (w.heap.size + 1) 1 _)).trans (grown_set _ (w.heap.size + 1) 2 _)).trans (grown_set _ (w.heap.size + 1) 3 _)).trans (grown_set _ (w.heap.size + 1) 4 _)).trans (grown_set _ (w.heap.size + 1) 5 _)).trans (grown_set _ (w.heap.size + 1) 6 _)).trans (grown_set _ (w.heap.size + 1) 7 _)
  have k0 := c3
  have k1 : (W3.setCell ⟨w.heap.size + 1, 0, none⟩ (.int .i64 x.id)).heap[w.heap.size + 1]? = some (.cells #[.int .i64 x.id, .string ⟨#[]⟩, .slice none 0 0, .slice none 0 0, .int .i64 0, .slice none 0 0, .int .i64 0, .string ⟨#[]⟩] 59 (0, 0)) := blk_set k0 0 _
  have k2 : ((W3.setCell ⟨w.heap.size + 1, 0, none⟩ (.int .i64 x.id)).setCell ⟨w.heap.size + 1, 1, none⟩ (.string (strL x.name))).heap[w.heap.size + 1]? = some (.cells #[.int .i64 x.id, .string (strL x.name), .slice none 0 0, .slice none 0 0, .int .i64 0, .slice none 0 0, .int .i64 0, .string ⟨#[]⟩] 59 (0, 0)) := blk_set k1 1 _
  have k3 : (((W3.setCell ⟨w.heap.size + 1, 0, none⟩ (.int .i64 x.id)).setCell ⟨w.heap.size + 1, 1, none⟩ (.string (strL x.name))).setCell ⟨w.heap.size + 1, 2, none⟩ (.slice nA0 nn0 nc0)).heap[w.heap.size + 1]? = some (.cells #[.int .i64 x.id, .string (strL x.name), .slice nA0 nn0 nc0, .slice none 0 0, .int .i64 0, .slice none 0 0, .int .i64 0, .string ⟨#[]⟩] 59 (0, 0)) := blk_set k2 2 _
  have k4 : ((((W3.setCell ⟨w.heap.size + 1, 0, none⟩ (.int .i64 x.id)).setCell ⟨w.heap.size + 1, 1, none⟩ (.string (strL x.name))).setCell ⟨w.heap.size + 1, 2, none⟩ (.slice nA0 nn0 nc0)).setCell ⟨w.heap.size + 1, 3, none⟩ (.slice nA1 nn1 nc1)).heap[w.heap.size + 1]? = some (.cells #[.int .i64 x.id, .string (strL x.name), .slice nA0 nn0 nc0, .slice nA1 nn1 nc1, .int .i64 0, .slice none 0 0, .int .i64 0, .string ⟨#[]⟩] 59 (0, 0)) := blk_set k3 3 _
  have k5 : (((((W3.setCell ⟨w.heap.size + 1, 0, none⟩ (.int .i64 x.id)).setCell ⟨w.heap.size + 1, 1, none⟩ (.string (strL x.name))).setCell ⟨w.heap.size + 1, 2, none⟩ (.slice nA0 nn0 nc0)).setCell ⟨w.heap.size + 1, 3, none⟩ (.slice nA1 nn1 nc1)).setCell ⟨w.heap.size + 1, 4, none⟩ (.int .i64 x.dflt)).heap[w.heap.size + 1]? = some (.cells #[.int .i64 x.id, .string (strL x.name), .slice nA0 nn0 nc0, .slice nA1 nn1 nc1, .int .i64 x.dflt, .slice none 0 0, .int .i64 0, .string ⟨#[]⟩] 59 (0, 0)) := blk_set k4 4 _
  have k6 : ((((((W3.setCell ⟨w.heap.size + 1, 0, none⟩ (.int .i64 x.id)).setCell ⟨w.heap.size + 1, 1, none⟩ (.string (strL x.name))).setCell ⟨w.heap.size + 1, 2, none⟩ (.slice nA0 nn0 nc0)).setCell ⟨w.heap.size + 1, 3, none⟩ (.slice nA1 nn1 nc1)).setCell ⟨w.heap.size + 1, 4, none⟩ (.int .i64 x.dflt)).setCell ⟨w.heap.size + 1, 5, none⟩ (.slice nA2 nn2 nc2)).heap[w.heap.size + 1]? = some (.cells #[.int .i64 x.id, .string (strL x.name), .slice nA0 nn0 nc0, .slice nA1 nn1 nc1, .int .i64 x.dflt, .slice nA2 nn2 nc2, .int .i64 0, .string ⟨#[]⟩] 59 (0, 0)) := blk_set k5 5 _
  have k7 : (((((((W3.setCell ⟨w.heap.size + 1, 0, none⟩ (.int .i64 x.id)).setCell ⟨w.heap.size + 1, 1, none⟩ (.string (strL x.name))).setCell ⟨w.heap.size + 1, 2, none⟩ (.slice nA0 nn0 nc0)).setCell ⟨w.heap.size + 1, 3, none⟩ (.slice nA1 nn1 nc1)).setCell ⟨w.heap.size + 1, 4, none⟩ (.int .i64 x.dflt)).setCell ⟨w.heap.size + 1, 5, none⟩ (.slice nA2 nn2 nc2)).setCell ⟨w.heap.size + 1, 6, none⟩ (.int .i64 x.size)).heap[w.heap.size + 1]? = some (.cells #[.int .i64 x.id, .string (strL x.name), .slice nA0 nn0 nc0, .slice nA1 nn1 nc1, .int .i64 x.dflt, .slice nA2 nn2 nc2, .int .i64 x.size, .string ⟨#[]⟩] 59 (0, 0)) := blk_set k6 6 _
  have k8 : ((((((((W3.setCell ⟨w.heap.size + 1, 0, none⟩ (.int .i64 x.id)).setCell ⟨w.heap.size + 1, 1, none⟩ (.string (strL x.name))).setCell ⟨w.heap.size + 1, 2, none⟩ (.slice nA0 nn0 nc0)).setCell ⟨w.heap.size + 1, 3, none⟩ (.slice nA1 nn1 nc1)).setCell ⟨w.heap.size + 1, 4, none⟩ (.int .i64 x.dflt)).setCell ⟨w.heap.size + 1, 5, none⟩ (.slice nA2 nn2 nc2)).setCell ⟨w.heap.size + 1, 6, none⟩ (.int .i64 x.size)).setCell ⟨w.heap.size + 1, 7, none⟩ (.string (strL x.restr))).heap[w.heap.size + 1]? = some (.cells #[.int .i64 x.id, .string (strL x.name), .slice nA0 nn0 nc0, .slice nA1 nn1 nc1, .int .i64 x.dflt, .slice nA2 nn2 nc2, .int .i64 x.size, .string (strL x.restr)] 59 (0, 0)) := blk_set k7 7 _
  have hcx : X.heap[w.heap.size + 1]? = some (.cells #[.int .i64 x.id, .string (strL x.name), .slice nA0 nn0 nc0, .slice nA1 nn1 nc1, .int .i64 x.dflt, .slice nA2 nn2 nc2, .int .i64 x.size, .string (strL x.restr)] 59 (0, 0)) := by rw [hX]; exact k8
  have hbx : Below w.heap.size w X := hb3.trans ⟨hgx.os, hgx.tape, hgx.output, hgx.size, fun k hk => hgx.block k (by omega) (fun e => by injection e with e; omega)⟩
  have q0 := blk_cell hcx 0 _ rfl
  have q1 := blk_cell hcx 1 _ rfl
  have q2 := blk_cell hcx 2 _ rfl
  have q3 := blk_cell hcx 3 _ rfl
  have q4 := blk_cell hcx 4 _ rfl
  have q5 := blk_cell hcx 5 _ rfl
  have q6 := blk_cell hcx 6 _ rfl
  have q7 := blk_cell hcx 7 _ rfl
  rw [← hX]
  refine bodyPost_ret (v := .agg #[.int .i64 x.id, .string (strL x.name), .slice nA0 nn0 nc0, .slice nA1 nn1 nc1, .int .i64 x.dflt, .slice nA2 nn2 nc2, .int .i64 x.size, .string (strL x.restr)]) (by simp [results, Tryz.results117, go_sem, q0, q1, q2, q3, q4, q5, q6, q7]) rfl ?_
  have lt10 : w.heap.size + 1 < W0.heap.size := Nat.lt_of_lt_of_le (Nat.lt_succ_self _) (show w.heap.size + 2 ≤ W0.heap.size from by first | exact hz0 | exact Nat.le_of_eq hz0)
  have hq0 := (hr0x2.stay hgx le0_3 (fun k e => .inl (by injection e with e; rw [← e]; exact lt10))).widen (a2 := w.heap.size) (b2 := X.heap.size) (Nat.le_of_lt lt0) (Nat.le_trans le0_3 hgx.size)
  have lt11 : w.heap.size + 1 < W1.heap.size := Nat.lt_of_lt_of_le (Nat.lt_succ_self _) (show w.heap.size + 2 ≤ W1.heap.size from by first | exact hz1 | exact Nat.le_of_eq hz1)
  have hq1 := (hr1x2.stay hgx le1_3 (fun k e => .inl (by injection e with e; rw [← e]; exact lt11))).widen (a2 := w.heap.size) (b2 := X.heap.size) (Nat.le_of_lt lt1) (Nat.le_trans le1_3 hgx.size)
  have lt12 : w.heap.size + 1 < W2.heap.size := Nat.lt_of_lt_of_le (Nat.lt_succ_self _) (show w.heap.size + 2 ≤ W2.heap.size from by first | exact hz2 | exact Nat.le_of_eq hz2)
  have hq2 := (hr2w.stay hgx le2_3 (fun k e => .inl (by injection e with e; rw [← e]; exact lt12))).widen (a2 := w.heap.size) (b2 := X.heap.size) (Nat.le_of_lt lt2) (Nat.le_trans le2_3 hgx.size)
  exact ⟨_, rfl, rfl, fun w2 B2 hs2 hb2 => ⟨_, _, _, rfl, h1, h2, hq0 w2 B2 hs2 hb2, hq1 w2 B2 hs2 hb2, h3, hq2 w2 B2 hs2 hb2, h4, h5⟩, hbx⟩
set_option maxRecDepth 100000 in
set_option maxHeartbeats 8000000 in
theorem ke_grant {w : World} {B : Nat} {cs : List Value} {x : GrantD} (h : GrantV B w cs x) (hB : B ≤ w.heap.size) (hs0 : x.keys.length ≤ 1000000) : Calls Tryz.prog 165 #[.agg cs.toArray] w (RetEl 4 GrantV w x) := by
  obtain ⟨v0, rfl, h1, r0⟩ := h
  obtain ⟨oA0, on0, oc0, rfl, _⟩ := r0.parts
  obtain ⟨W0, hW0⟩ : ∃ W, W = (w.alloc (.cells #[.int .i64 x.table, .bool x.read, .bool x.write, .slice oA0 on0 oc0] 185)).alloc (.cells #[.int .i64 0, .bool false, .bool false, .slice none 0 0] 185) := ⟨_, rfl⟩
  have hb0 : Below w.heap.size w W0 := by rw [hW0]; exact ((Below.refl w.heap.size w).alloc (by simp) _).alloc (by simp) _
  have hz0 : w.heap.size + 2 = W0.heap.size := by rw [hW0]; simp
  have b0 : W0.heap[w.heap.size]? = some (.cells #[.int .i64 x.table, .bool x.read, .bool x.write, .slice oA0 on0 oc0] 185 (0, 0)) := by
    rw [hW0]
    exact ((grown_alloc _ _ none).block _ (by simp) (by simp)).trans (heap_alloc_new _ _)
  have c0 : W0.heap[w.heap.size + 1]? = some (.cells #[.int .i64 0, .bool false, .bool false, .slice none 0 0] 185 (0, 0)) := by
    rw [hW0]
    rw [show w.heap.size + 1 = (w.alloc (.cells #[.int .i64 x.table, .bool x.read, .bool x.write, .slice oA0 on0 oc0] 185)).heap.size by simp]
    exact heap_alloc_new _ _
  have HW0 := Lib.hid hW0
  clear hW0
  have K0 : Hid (∀ W, Below w.heap.size w W → Calls Tryz.prog 185 #[.slice oA0 on0 oc0] W (RetClo 1 BoolV W (x.keys))) := Lib.hid fun W hb => kl_bool (r0.below kept_bool (hb.mono hB)) (Nat.le_trans hB hb.size) hs0
  clear r0
  go_enter Tryz.func165, Tryz.ntmps165
  go_upto_region 1 with fail
  rw [← HW0.out]
  have HB0 := Lib.hid hb0
  have e0 : W0.cell? ⟨w.heap.size, 3, none⟩ = some (.slice oA0 on0 oc0) := blk_cell b0 3 _ rfl
  go_upto_region 2 with (go_at_call 185; (with_reducible refine (K0.out _ HB0.out).mono ?_); rintro en u0 ⟨nA0, nn0, nc0, rfl, hr0, hd0⟩; have g0 := (hd0.block w.heap.size (by omega)).trans b0; have y0 := (hd0.block (w.heap.size + 1) (by omega)).trans c0; have t0 := blk_cell g0 3 _ rfl; have f0 := blk_froz g0 3)
  obtain ⟨W1, hW1⟩ : ∃ W, W = u0.setCell ⟨w.heap.size, 3, none⟩ (.slice nA0 nn0 nc0) := ⟨_, rfl⟩
  rw [← hW1]
  have hz1 : w.heap.size + 2 ≤ W1.heap.size := by rw [hW1]; have := hd0.size; simp; omega
  have hgs0 : u0.grownBy W1 (some w.heap.size) := by rw [hW1]; exact grown_set u0 w.heap.size 3 _
  have b1 : W1.heap[w.heap.size]? = some (.cells #[.int .i64 x.table, .bool x.read, .bool x.write, .slice nA0 nn0 nc0] 185 (0, 0)) := by rw [hW1]; exact blk_set g0 3 _
  have c1 : W1.heap[w.heap.size + 1]? = some (.cells #[.int .i64 0, .bool false, .bool false, .slice none 0 0] 185 (0, 0)) := (hgs0.block _ (by have := hd0.size; omega) (fun e => by injection e with e; omega)).trans y0
  have hb1 : Below w.heap.size w W1 := HB0.out.trans (⟨hgs0.os.trans hd0.os, hgs0.tape.trans hd0.tape, hgs0.output.trans hd0.output, Nat.le_trans hd0.size hgs0.size, fun k hk => (hgs0.block k (by have := hd0.size; have := HB0.out.size; omega) (fun e => by injection e with e; omega)).trans (hd0.block k (by have := HB0.out.size; omega))⟩)
  have lt0 : w.heap.size < W0.heap.size := Nat.lt_of_lt_of_le (by omega) (show w.heap.size + 2 ≤ W0.heap.size from by first | exact hz0 | exact Nat.le_of_eq hz0)
  have hr0w := hr0.stay hgs0 (Nat.le_refl _) (fun k e => .inl (by injection e with e; rw [← e]; exact lt0))
  have le0_1 : u0.heap.size ≤ W1.heap.size := hgs0.size
  clear e0 t0 f0 hW1
  have s0 : W1.cell? ⟨w.heap.size, 0, none⟩ = some (.int .i64 x.table) := blk_cell b1 0 _ rfl
  have z0 : W1.cell? ⟨w.heap.size + 1, 0, none⟩ = some _ := blk_cell c1 0 _ rfl
  have zf0 := blk_froz c1 0
  have s1 : W1.cell? ⟨w.heap.size, 1, none⟩ = some (.bool x.read) := blk_cell b1 1 _ rfl
  have z1 : W1.cell? ⟨w.heap.size + 1, 1, none⟩ = some _ := blk_cell c1 1 _ rfl
  have zf1 := blk_froz c1 1
  have s2 : W1.cell? ⟨w.heap.size, 2, none⟩ = some (.bool x.write) := blk_cell b1 2 _ rfl
  have z2 : W1.cell? ⟨w.heap.size + 1, 2, none⟩ = some _ := blk_cell c1 2 _ rfl
  have zf2 := blk_froz c1 2
  have s3 : W1.cell? ⟨w.heap.size, 3, none⟩ = some (.slice nA0 nn0 nc0) := blk_cell b1 3 _ rfl
  have z3 : W1.cell? ⟨w.heap.size + 1, 3, none⟩ = some _ := blk_cell c1 3 _ rfl
  have zf3 := blk_froz c1 3
  go_wp2_with fail
  obtain ⟨X, hX⟩ : ∃ X, X = ((((W1.setCell ⟨w.heap.size + 1, 0, none⟩ (.int .i64 x.table)).setCell ⟨w.heap.size + 1, 1, none⟩ (.bool x.read)).setCell ⟨w.heap.size + 1, 2, none⟩ (.bool x.write)).setCell ⟨w.heap.size + 1, 3, none⟩ (.slice nA0 nn0 nc0)) := ⟨_, rfl⟩
  have hgx : W1.grownBy X (some (w.heap.size + 1)) := by
    rw [hX]
    exact (((grown_set _ (w.heap.size + 1) 0 _).trans (grown_set _ (w.heap.size + 1) 1 _)).trans (grown_set _ (w.heap.size + 1) 2 _)).trans (grown_set _ (w.heap.size + 1) 3 _)
  have k0 := c1
  have k1 : (W1.setCell ⟨w.heap.size + 1, 0, none⟩ (.int .i64 x.table)).heap[w.heap.size + 1]? = some (.cells #[.int .i64 x.table, .bool false, .bool false, .slice none 0 0] 185 (0, 0)) := blk_set k0 0 _
  have k2 : ((W1.setCell ⟨w.heap.size + 1, 0, none⟩ (.int .i64 x.table)).setCell ⟨w.heap.size + 1, 1, none⟩ (.bool x.read)).heap[w.heap.size + 1]? = some (.cells #[.int .i64 x.table, .bool x.read, .bool false, .slice none 0 0] 185 (0, 0)) := blk_set k1 1 _
  have k3 : (((W1.setCell ⟨w.heap.size + 1, 0, none⟩ (.int .i64 x.table)).setCell ⟨w.heap.size + 1, 1, none⟩ (.bool x.read)).setCell ⟨w.heap.size + 1, 2, none⟩ (.bool x.write)).heap[w.heap.size + 1]? = some (.cells #[.int .i64 x.table, .bool x.read, .bool x.write, .slice none 0 0] 185 (0, 0)) := blk_set k2 2 _
  have k4 : ((((W1.setCell ⟨w.heap.size + 1, 0, none⟩ (.int .i64 x.table)).setCell ⟨w.heap.size + 1, 1, none⟩ (.bool x.read)).setCell ⟨w.heap.size + 1, 2, none⟩ (.bool x.write)).setCell ⟨w.heap.size + 1, 3, none⟩ (.slice nA0 nn0 nc0)).heap[w.heap.size + 1]? = some (.cells #[.int .i64 x.table, .bool x.read, .bool x.write, .slice nA0 nn0 nc0] 185 (0, 0)) := blk_set k3 3 _
  have hcx : X.heap[w.heap.size + 1]? = some (.cells #[.int .i64 x.table, .bool x.read, .bool x.write, .slice nA0 nn0 nc0] 185 (0, 0)) := by rw [hX]; exact k4
  have hbx : Below w.heap.size w X := hb1.trans ⟨hgx.os, hgx.tape, hgx.output, hgx.size, fun k hk => hgx.block k (by omega) (fun e => by injection e with e; omega)⟩
  have q0 := blk_cell hcx 0 _ rfl
  have q1 := blk_cell hcx 1 _ rfl
  have q2 := blk_cell hcx 2 _ rfl
  have q3 := blk_cell hcx 3 _ rfl
  rw [← hX]
  refine bodyPost_ret (v := .agg #[.int .i64 x.table, .bool x.read, .bool x.write, .slice nA0 nn0 nc0]) (by simp [results, Tryz.results165, go_sem, q0, q1, q2, q3]) rfl ?_
  have lt10 : w.heap.size + 1 < W0.heap.size := Nat.lt_of_lt_of_le (Nat.lt_succ_self _) (show w.heap.size + 2 ≤ W0.heap.size from by first | exact hz0 | exact Nat.le_of_eq hz0)
  have hq0 := (hr0w.stay hgx le0_1 (fun k e => .inl (by injection e with e; rw [← e]; exact lt10))).widen (a2 := w.heap.size) (b2 := X.heap.size) (Nat.le_of_lt lt0) (Nat.le_trans le0_1 hgx.size)
  exact ⟨_, rfl, rfl, fun w2 B2 hs2 hb2 => ⟨_, rfl, h1, hq0 w2 B2 hs2 hb2⟩, hbx⟩
set_option maxRecDepth 100000 in
set_option maxHeartbeats 8000000 in
theorem ke_entry {w : World} {B : Nat} {cs : List Value} {x : EntryD} (h : EntryV B w cs x) (hB : B ≤ w.heap.size) (hs0 : x.ms.length ≤ 1000000) (hs1 : x.args.length ≤ 1000000) : Calls Tryz.prog 129 #[.agg cs.toArray] w (RetEl 5 EntryV w x) := by
  obtain ⟨v0, v1, rfl, h1, r0, h2, h3, r1⟩ := h
  obtain ⟨oA0, on0, oc0, rfl, _⟩ := r0.parts
  obtain ⟨oA1, on1, oc1, rfl, _⟩ := r1.parts
  obtain ⟨W0, hW0⟩ : ∃ W, W = (w.alloc (.cells #[.int .i64 x.table, .slice oA0 on0 oc0, .int .i64 x.prio, .int .i64 x.action, .slice oA1 on1 oc1] 26)).alloc (.cells #[.int .i64 0, .slice none 0 0, .int .i64 0, .int .i64 0, .slice none 0 0] 26) := ⟨_, rfl⟩
  have hb0 : Below w.heap.size w W0 := by rw [hW0]; exact ((Below.refl w.heap.size w).alloc (by simp) _).alloc (by simp) _
  have hz0 : w.heap.size + 2 = W0.heap.size := by rw [hW0]; simp
  have b0 : W0.heap[w.heap.size]? = some (.cells #[.int .i64 x.table, .slice oA0 on0 oc0, .int .i64 x.prio, .int .i64 x.action, .slice oA1 on1 oc1] 26 (0, 0)) := by
    rw [hW0]
    exact ((grown_alloc _ _ none).block _ (by simp) (by simp)).trans (heap_alloc_new _ _)
  have c0 : W0.heap[w.heap.size + 1]? = some (.cells #[.int .i64 0, .slice none 0 0, .int .i64 0, .int .i64 0, .slice none 0 0] 26 (0, 0)) := by
    rw [hW0]
    rw [show w.heap.size + 1 = (w.alloc (.cells #[.int .i64 x.table, .slice oA0 on0 oc0, .int .i64 x.prio, .int .i64 x.action, .slice oA1 on1 oc1] 26)).heap.size by simp]
    exact heap_alloc_new _ _
  have HW0 := Lib.hid hW0
  clear hW0
  have K0 : Hid (∀ W, Below w.heap.size w W → Calls Tryz.prog 169 #[.slice oA0 on0 oc0] W (RetClo 8 MatchV W (x.ms))) := Lib.hid fun W hb => kl_match (r0.below kept_match (hb.mono hB)) (Nat.le_trans hB hb.size) hs0
  have K1 : Hid (∀ W, Below w.heap.size w W → Calls Tryz.prog 163 #[.slice oA1 on1 oc1] W (RetClo 2 ValV W (x.args))) := Lib.hid fun W hb => kl_val (r1.below kept_val (hb.mono hB)) (Nat.le_trans hB hb.size) hs1
  clear r0 r1
  go_enter Tryz.func129, Tryz.ntmps129
  go_upto_region 1 with fail
  rw [← HW0.out]
  have HB0 := Lib.hid hb0
  have e0 : W0.cell? ⟨w.heap.size, 1, none⟩ = some (.slice oA0 on0 oc0) := blk_cell b0 1 _ rfl
  go_upto_region 2 with (go_at_call 169; (with_reducible refine (K0.out _ HB0.out).mono ?_); rintro en u0 ⟨nA0, nn0, nc0, rfl, hr0, hd0⟩; have g0 := (hd0.block w.heap.size (by omega)).trans b0; have y0 := (hd0.block (w.heap.size + 1) (by omega)).trans c0; have t0 := blk_cell g0 1 _ rfl; have f0 := blk_froz g0 1)
  obtain ⟨W1, hW1⟩ : ∃ W, W = u0.setCell ⟨w.heap.size, 1, none⟩ (.slice nA0 nn0 nc0) := ⟨_, rfl⟩
  rw [← hW1]
  have hz1 : w.heap.size + 2 ≤ W1.heap.size := by rw [hW1]; have := hd0.size; simp; omega
  have hgs0 : u0.grownBy W1 (some w.heap.size) := by rw [hW1]; exact grown_set u0 w.heap.size 1 _
  have b1 : W1.heap[w.heap.size]? = some (.cells #[.int .i64 x.table, .slice nA0 nn0 nc0, .int .i64 x.prio, .int .i64 x.action, .slice oA1 on1 oc1] 26 (0, 0)) := by rw [hW1]; exact blk_set g0 1 _
  have c1 : W1.heap[w.heap.size + 1]? = some (.cells #[.int .i64 0, .slice none 0 0, .int .i64 0, .int .i64 0, .slice none 0 0] 26 (0, 0)) := (hgs0.block _ (by have := hd0.size; omega) (fun e => by injection e with e; omega)).trans y0
  have hb1 : Below w.heap.size w W1 := HB0.out.trans (⟨hgs0.os.trans hd0.os, hgs0.tape.trans hd0.tape, hgs0.output.trans hd0.output, Nat.le_trans hd0.size hgs0.size, fun k hk => (hgs0.block k (by have := hd0.size; have := HB0.out.size; omega) (fun e => by injection e with e; omega)).trans (hd0.block k (by have := HB0.out.size; omega))⟩)
  have lt0 : w.heap.size < W0.heap.size := Nat.lt_of_lt_of_le (by omega) (show w.heap.size + 2 ≤ W0.heap.size from by first | exact hz0 | exact Nat.le_of_eq hz0)
  have hr0w := hr0.stay hgs0 (Nat.le_refl _) (fun k e => .inl (by injection e with e; rw [← e]; exact lt0))
  have le0_1 : u0.heap.size ≤ W1.heap.size := hgs0.size
  clear e0 t0 f0 hW1
  have HB1 := Lib.hid hb1
  have e1 : W1.cell? ⟨w.heap.size, 4, none⟩ = some (.slice oA1 on1 oc1) := blk_cell b1 4 _ rfl
  go_upto_region 3 with (go_at_call 163; (with_reducible refine (K1.out _ HB1.out).mono ?_); rintro en u1 ⟨nA1, nn1, nc1, rfl, hr1, hd1⟩; have g1 := (hd1.block w.heap.size (by omega)).trans b1; have y1 := (hd1.block (w.heap.size + 1) (by omega)).trans c1; have t1 := blk_cell g1 4 _ rfl; have f1 := blk_froz g1 4)
  obtain ⟨W2, hW2⟩ : ∃ W, W = u1.setCell ⟨w.heap.size, 4, none⟩ (.slice nA1 nn1 nc1) := ⟨_, rfl⟩
  rw [← hW2]
  have hz2 : w.heap.size + 2 ≤ W2.heap.size := by rw [hW2]; have := hd1.size; simp; omega
  have hgs1 : u1.grownBy W2 (some w.heap.size) := by rw [hW2]; exact grown_set u1 w.heap.size 4 _
  have b2 : W2.heap[w.heap.size]? = some (.cells #[.int .i64 x.table, .slice nA0 nn0 nc0, .int .i64 x.prio, .int .i64 x.action, .slice nA1 nn1 nc1] 26 (0, 0)) := by rw [hW2]; exact blk_set g1 4 _
  have c2 : W2.heap[w.heap.size + 1]? = some (.cells #[.int .i64 0, .slice none 0 0, .int .i64 0, .int .i64 0, .slice none 0 0] 26 (0, 0)) := (hgs1.block _ (by have := hd1.size; omega) (fun e => by injection e with e; omega)).trans y1
  have hb2 : Below w.heap.size w W2 := HB1.out.trans (⟨hgs1.os.trans hd1.os, hgs1.tape.trans hd1.tape, hgs1.output.trans hd1.output, Nat.le_trans hd1.size hgs1.size, fun k hk => (hgs1.block k (by have := hd1.size; have := HB1.out.size; omega) (fun e => by injection e with e; omega)).trans (hd1.block k (by have := HB1.out.size; omega))⟩)
  have lt1 : w.heap.size < W1.heap.size := Nat.lt_of_lt_of_le (by omega) (show w.heap.size + 2 ≤ W1.heap.size from by first | exact hz1 | exact Nat.le_of_eq hz1)
  have hr1w := hr1.stay hgs1 (Nat.le_refl _) (fun k e => .inl (by injection e with e; rw [← e]; exact lt1))
  have le1_2 : u1.heap.size ≤ W2.heap.size := hgs1.size
  have le0_1u : u0.heap.size ≤ u1.heap.size := Nat.le_trans le0_1 hd1.size
  have le0_2 : u0.heap.size ≤ W2.heap.size := Nat.le_trans le0_1u hgs1.size
  have hr0x1 := (hr0w.stay (grown_of_below hd1 none) le0_1 (fun k e => by cases e)).stay hgs1 le0_1u (fun k e => .inl (by injection e with e; rw [← e]; exact lt0))
  clear e1 t1 f1 hW2
  have s0 : W2.cell? ⟨w.heap.size, 0, none⟩ = some (.int .i64 x.table) := blk_cell b2 0 _ rfl
  have z0 : W2.cell? ⟨w.heap.size + 1, 0, none⟩ = some _ := blk_cell c2 0 _ rfl
  have zf0 := blk_froz c2 0
  have s1 : W2.cell? ⟨w.heap.size, 1, none⟩ = some (.slice nA0 nn0 nc0) := blk_cell b2 1 _ rfl
  have z1 : W2.cell? ⟨w.heap.size + 1, 1, none⟩ = some _ := blk_cell c2 1 _ rfl
  have zf1 := blk_froz c2 1
  have s2 : W2.cell? ⟨w.heap.size, 2, none⟩ = some (.int .i64 x.prio) := blk_cell b2 2 _ rfl
  have z2 : W2.cell? ⟨w.heap.size + 1, 2, none⟩ = some _ := blk_cell c2 2 _ rfl
  have zf2 := blk_froz c2 2
  have s3 : W2.cell? ⟨w.heap.size, 3, none⟩ = some (.int .i64 x.action) := blk_cell b2 3 _ rfl
  have z3 : W2.cell? ⟨w.heap.size + 1, 3, none⟩ = some _ := blk_cell c2 3 _ rfl
  have zf3 := blk_froz c2 3
  have s4 : W2.cell? ⟨w.heap.size, 4, none⟩ = some (.slice nA1 nn1 nc1) := blk_cell b2 4 _ rfl
  have z4 : W2.cell? ⟨w.heap.size + 1, 4, none⟩ = some _ := blk_cell c2 4 _ rfl
  have zf4 := blk_froz c2 4
  go_wp2_with fail
  obtain ⟨X, hX⟩ : ∃ X, X = (((((W2.setCell ⟨w.heap.size + 1, 0, none⟩ (.int .i64 x.table)).setCell ⟨w.heap.size + 1, 1, none⟩ (.slice nA0 nn0 nc0)).setCell ⟨w.heap.size + 1, 2, none⟩ (.int .i64 x.prio)).setCell ⟨w.heap.size + 1, 3, none⟩ (.int .i64 x.action)).setCell ⟨w.heap.size + 1, 4, none⟩ (.slice nA1 nn1 nc1)) := ⟨_, rfl⟩
  have hgx : W2.grownBy X (some (w.heap.size + 1)) := by
    rw [hX]
    exact ((((grown_set _ (w.heap.size + 1) 0 _).trans (grown_set _ (w.heap.size + 1) 1 _)).trans (grown_set _ (w.heap.size + 1) 2 _)).trans (grown_set _ (w.heap.size + 1) 3 _)).trans (grown_set _ (w.heap.size + 1) 4 _)
  have k0 := c2
  have k1 : (W2.setCell ⟨w.heap.size + 1, 0, none⟩ (.int .i64 x.table)).heap[w.heap.size + 1]? = some (.cells #[.int .i64 x.table, .slice none 0 0, .int .i64 0, .int .i64 0, .slice none 0 0] 26 (0, 0)) := blk_set k0 0 _
  have k2 : ((W2.setCell ⟨w.heap.size + 1, 0, none⟩ (.int .i64 x.table)).setCell ⟨w.heap.size + 1, 1, none⟩ (.slice nA0 nn0 nc0)).heap[w.heap.size + 1]? = some (.cells #[.int .i64 x.table, .slice nA0 nn0 nc0, .int .i64 0, .int .i64 0, .slice none 0 0] 26 (0, 0)) := blk_set k1 1 _
  have k3 : (((W2.setCell ⟨w.heap.size + 1, 0, none⟩ (.int .i64 x.table)).setCell ⟨w.heap.size + 1, 1, none⟩ (.slice nA0 nn0 nc0)).setCell ⟨w.heap.size + 1, 2, none⟩ (.int .i64 x.prio)).heap[w.heap.size + 1]? = some (.cells #[.int .i64 x.table, .slice nA0 nn0 nc0, .int .i64 x.prio, .int .i64 0, .slice none 0 0] 26 (0, 0)) := blk_set k2 2 _
  have k4 : ((((W2.setCell ⟨w.heap.size + 1, 0, none⟩ (.int .i64 x.table)).setCell ⟨w.heap.size + 1, 1, none⟩ (.slice nA0 nn0 nc0)).setCell ⟨w.heap.size + 1, 2, none⟩ (.int .i64 x.prio)).setCell ⟨w.heap.size + 1, 3, none⟩ (.int .i64 x.action)).heap[w.heap.size + 1]? = some (.cells #[.int .i64 x.table, .slice nA0 nn0 nc0, .int .i64 x.prio, .int .i64 x.action, .slice none 0 0] 26 (0, 0)) := blk_set k3 3 _
  have k5 : (((((W2.setCell ⟨w.heap.size + 1, 0, none⟩ (.int .i64 x.table)).setCell ⟨w.heap.size + 1, 1, none⟩ (.slice nA0 nn0 nc0)).setCell ⟨w.heap.size + 1, 2, none⟩ (.int .i64 x.prio)).setCell ⟨w.heap.size + 1, 3, none⟩ (.int .i64 x.action)).setCell ⟨w.heap.size + 1, 4, none⟩ (.slice nA1 nn1 nc1)).heap[w.heap.size + 1]? = some (.cells #[.int .i64 x.table, .slice nA0 nn0 nc0, .int .i64 x.prio, .int .i64 x.action, .slice nA1 nn1 nc1] 26 (0, 0)) := blk_set k4 4 _
  have hcx : X.heap[w.heap.size + 1]? = some (.cells #[.int .i64 x.table, .slice nA0 nn0 nc0, .int .i64 x.prio, .int .i64 x.action, .slice nA1 nn1 nc1] 26 (0, 0)) := by rw [hX]; exact k5
  have hbx : Below w.heap.size w X := hb2.trans ⟨hgx.os, hgx.tape, hgx.output, hgx.size, fun k hk => hgx.block k (by omega) (fun e => by injection e with e; omega)⟩
  have q0 := blk_cell hcx 0 _ rfl
  have q1 := blk_cell hcx 1 _ rfl
  have q2 := blk_cell hcx 2 _ rfl
  have q3 := blk_cell hcx 3 _ rfl
  have q4 := blk_cell hcx 4 _ rfl
  rw [← hX]
  refine bodyPost_ret (v := .agg #[.int .i64 x.table, .slice nA0 nn0 nc0, .int .i64 x.prio, .int .i64 x.action, .slice nA1 nn1 nc1]) (by simp [results, Tryz.results129, go_sem, q0, q1, q2, q3, q4]) rfl ?_
  have lt10 : w.heap.size + 1 < W0.heap.size := Nat.lt_of_lt_of_le (Nat.lt_succ_self _) (show w.heap.size + 2 ≤ W0.heap.size from by first | exact hz0 | exact Nat.le_of_eq hz0)
  have hq0 := (hr0x1.stay hgx le0_2 (fun k e => .inl (by injection e with e; rw [← e]; exact lt10))).widen (a2 := w.heap.size) (b2 := X.heap.size) (Nat.le_of_lt lt0) (Nat.le_trans le0_2 hgx.size)
  have lt11 : w.heap.size + 1 < W1.heap.size := Nat.lt_of_lt_of_le (Nat.lt_succ_self _) (show w.heap.size + 2 ≤ W1.heap.size from by first | exact hz1 | exact Nat.le_of_eq hz1)
  have hq1 := (hr1w.stay hgx le1_2 (fun k e => .inl (by injection e with e; rw [← e]; exact lt11))).widen (a2 := w.heap.size) (b2 := X.heap.size) (Nat.le_of_lt lt1) (Nat.le_trans le1_2 hgx.size)
  exact ⟨_, rfl, rfl, fun w2 B2 hs2 hb2 => ⟨_, _, rfl, h1, hq0 w2 B2 hs2 hb2, h2, h3, hq1 w2 B2 hs2 hb2⟩, hbx⟩
end Go.Proofs.YtldgjahpmlafgaaGreat
