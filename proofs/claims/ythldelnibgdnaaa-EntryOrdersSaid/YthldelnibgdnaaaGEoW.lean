/- EntryOrders: its walk. -/
import Derived.Test.YthldelnibgdnaaaGEoP
import Derived.Test.YthldelnibgdnaaaGBent
import Derived.Test.YthldelnibgdnaaaGBg
namespace Go.Proofs.Ythldelnibgdnaaa
open Go.RowKit
theorem modI_natO (x : Int) (n : Nat) (h1 : 1 ≤ n) : ∃ r : Nat, r < n ∧ modI x n = (r : Int) := by
  obtain ⟨a, b⟩ := modI_b x n h1
  exact ⟨(modI x n).toNat, by omega, by omega⟩
/-- a row that is kept by whatever leaves its blocks -/
theorem RowH.stay {α : Type} {sz a b : Nat} {P : CellP α} {W W' : World} {v : Value} {xs : List α} (h : RowH sz P a b W v xs) {row : Option Nat} (hg : W.grownBy W' row) (hb : b ≤ W.heap.size) (hr : ∀ k, row = some k → k < a ∨ b ≤ k) : RowH sz P a b W' v xs := h.kept (SameB.of_grown hg hb hr)
theorem li_end {x : SchemaD} {w W7 w8 w9 w10 w11 w12 w13 : World} {K a6 b6 nn : Nat} {v8 : Value} {xs : List EntX} {E0 E1 E2 E3 : EntX} (ho8 : w8.ownsRow (W7.heap.size + 1) 26 5 v8 nn (xs.flatMap EntX.cells)) (hk8 : ∀ y ∈ xs, EntK x (W7.heap.size + 1) v8.ownBlock w8 y)
    (hg8 : W7.grownBy w8 (some K)) (h9 : Below w8.heap.size w8 w9) (h10 : Below w9.heap.size w9 w10) (h11 : Below w10.heap.size w10 w11) (h12 : Below w11.heap.size w11 w12) (hg13 : w12.grownBy w13 v8.ownBlock) (hKa : K < a6) (hb6 : b6 ≤ W7.heap.size) (hwK : w.heap.size ≤ K) (hw7 : Below w.heap.size w W7)
    (p0 : RowH 8 MatchV a6 b6 W7 E0.v E0.d.ms) (q0 : RowH 2 ValV a6 b6 W7 E0.u E0.d.args) (p1 : RowH 8 MatchV w9.heap.size w10.heap.size w10 E1.v E1.d.ms) (q1 : RowH 2 ValV w9.heap.size w10.heap.size w10 E1.u E1.d.args)
    (p2 : RowV 8 MatchV w.heap.size w E2.v E2.d.ms) (q2 : RowV 2 ValV w.heap.size w E2.u E2.d.args) (p3 : RowH 8 MatchV w10.heap.size w11.heap.size w11 E3.v E3.d.ms) (q3 : RowH 2 ValV w10.heap.size w11.heap.size w11 E3.u E3.d.args) :
    (∀ y ∈ xs ++ [E0, E1, E2, E3], RowV 8 MatchV w13.heap.size w13 y.v y.d.ms ∧ RowV 2 ValV w13.heap.size w13 y.u y.d.args) ∧ Below w.heap.size w w13 := by
  have s8 := hg8.size
  have s9 := h9.size
  have s10 := h10.size
  have s11 := h11.size
  have s12 := h12.size
  have s13 := hg13.size
  have sw := hw7.size
  have hob : ∀ k, v8.ownBlock = some k → W7.heap.size + 1 ≤ k ∧ k < w8.heap.size := fun k hk => World.ownsRow.lt ho8 k hk
  have g8_12 : w8.grownBy w12 none := ((grown_of_below h9 none).trans (grown_of_below h10 none)).trans ((grown_of_below h11 none).trans (grown_of_below h12 none))
  have g10_12 : w10.grownBy w12 none := (grown_of_below h11 none).trans (grown_of_below h12 none)
  have nn0 : ∀ {a b : Nat} (k : Nat), (none : Option Nat) = some k → k < a ∨ b ≤ k := fun k h => by cases h
  have hW : Below w.heap.size w w13 := by
    have b8 : Below w.heap.size w w8 := hw7.trans ⟨hg8.os, hg8.tape, hg8.output, hg8.size, fun k hk => hg8.block k (by omega) (fun e => by injection e with e; omega)⟩
    have b12 : Below w.heap.size w w12 := b8.trans ⟨g8_12.os, g8_12.tape, g8_12.output, g8_12.size, fun k hk => g8_12.block k (by omega) (by simp)⟩
    exact b12.trans ⟨hg13.os, hg13.tape, hg13.output, hg13.size, fun k hk => hg13.block k (by omega) (fun e => by have := hob k e.symm; omega)⟩
  refine ⟨fun y hy => ?_, hW⟩
  rcases List.mem_append.1 hy with hy | hy
  · obtain ⟨a, b, h1, h2, h3, h4, h5, h6, _⟩ := (hk8 y hy).grown g8_12 (fun k h => by cases h)
    exact ⟨(h5.stay hg13 h3 h4).row (Nat.le_trans h3 s13), (h6.stay hg13 h3 h4).row (Nat.le_trans h3 s13)⟩
  · simp only [List.mem_cons, List.not_mem_nil, or_false] at hy
    rcases hy with rfl | rfl | rfl | rfl
    · have f : ∀ {α : Type} {sz : Nat} {P : CellP α} {v : Value} {l : List α}, RowH sz P a6 b6 W7 v l → RowV sz P w13.heap.size w13 v l := fun h =>
        (((h.stay hg8 hb6 (fun k e => by injection e with e; omega)).stay g8_12 (by omega) nn0).stay hg13 (by omega) (fun k e => by have := hob k e; omega)).row (by omega)
      exact ⟨f p0, f q0⟩
    · have f : ∀ {α : Type} {sz : Nat} {P : CellP α} {v : Value} {l : List α}, RowH sz P w9.heap.size w10.heap.size w10 v l → RowV sz P w13.heap.size w13 v l := fun h =>
        ((h.stay g10_12 (Nat.le_refl _) nn0).stay hg13 (by omega) (fun k e => by have := hob k e; omega)).row (by omega)
      exact ⟨f p1, f q1⟩
    · exact ⟨(p2.below kept_match hW).up up_match (by omega), (q2.below kept_val hW).up up_val (by omega)⟩
    · have f : ∀ {α : Type} {sz : Nat} {P : CellP α} {v : Value} {l : List α}, RowH sz P w10.heap.size w11.heap.size w11 v l → RowV sz P w13.heap.size w13 v l := fun h =>
        ((h.stay (grown_of_below h12 none) (Nat.le_refl _) nn0).stay hg13 (by omega) (fun k e => by have := hob k e; omega)).row (by omega)
      exact ⟨f p3, f q3⟩
theorem and3O (k : Int) : I64 (bits .and .i64 k 3) := by
  have := i64_mask k 2 (by omega)
  rw [show (((2 ^ 2 - 1 : Nat) : Int)) = 3 from rfl, show (((2 ^ 2 : Nat) : Int)) = 4 from rfl] at this
  rw [this]
  unfold I64
  omega
set_option maxRecDepth 100000 in
set_option maxHeartbeats 30000000 in
theorem eorders_any (w : World) (Ac : Option Addr) (Dc nc cc : Nat) (lc : List Nat) (hrc : ReadsL w Dc Ac lc) (hdc : lc ≠ [] → Dc < w.heap.size) (hlc : lc.length = nc) (hcc : nc ≤ cc) (hmc : cc ≤ maxLen) (hsc : Small lc)
    (Am : Option Addr) (Dm nm cm : Nat) (lm : List Nat) (hrm : ReadsL w Dm Am lm) (hdm : lm ≠ [] → Dm < w.heap.size) (hlm : lm.length = nm) (hcm : nm ≤ cm) (hmm : cm ≤ maxLen) (hsm : Small lm)
    (which n : Int) (hq : I64 n) (v : Nat) (hv : v < 2 ^ 128) (raw : EntryD) (Aq : Option Addr) (nq cq : Nat) (hraw : RowV 8 MatchV w.heap.size w (.slice Aq nq cq) raw.ms) (Au : Option Addr) (nu cu : Nat) (hra : RowV 2 ValV w.heap.size w (.slice Au nu cu) raw.args) (hrn : nq < 2199023255552) (hrm2 : nu < 8796093022208) : Calls Try.prog 3 #[.slice Ac nc cc, .slice Am nm cm, .agg #[.int .i64 raw.table, .slice Aq nq cq, .int .i64 raw.prio, .int .i64 raw.action, .slice Au nu cu], .int .i64 which, .int .i64 n, .agg #[.int .u64 (hi v), .int .u64 (lo v)]] w (RetX (.bool true) w) := by
  have HRAW := Lib.hid hraw
  have HRA := Lib.hid hra
  have HDMW := Lib.hid hdm
  have HQ := Lib.hid hq
  have HV := Lib.hid hv
  clear hraw hra hq hv
  obtain ⟨W0, hW0⟩ : ∃ W, W = ((w.alloc (.cells #[.int .i64 raw.table, .slice Aq nq cq, .int .i64 raw.prio, .int .i64 raw.action, .slice Au nu cu] 26)).alloc (.cells #[.int .u64 (hi v), .int .u64 (lo v)] 29)) := ⟨_, rfl⟩
  have hB0 : Below w.heap.size w W0 := by rw [hW0]; exact (((Below.refl w.heap.size w).alloc (by simp <;> omega) _).alloc (by simp <;> omega) _)
  have hz0 : W0.heap.size = w.heap.size + 2 := by rw [hW0]; simp
  have b0_0 : W0.heap[w.heap.size]? = some (.cells #[.int .i64 raw.table, .slice Aq nq cq, .int .i64 raw.prio, .int .i64 raw.action, .slice Au nu cu] 26 (0, 0)) := by
    rw [hW0]
    exact (((Below.refl (w.alloc (.cells #[.int .i64 raw.table, .slice Aq nq cq, .int .i64 raw.prio, .int .i64 raw.action, .slice Au nu cu] 26)).heap.size (w.alloc (.cells #[.int .i64 raw.table, .slice Aq nq cq, .int .i64 raw.prio, .int .i64 raw.action, .slice Au nu cu] 26))).alloc (by simp <;> omega) _).block w.heap.size (by simp)).trans (heap_alloc_new _ _)
  have b0_1 : W0.heap[w.heap.size + 1]? = some (.cells #[.int .u64 (hi v), .int .u64 (lo v)] 29 (0, 0)) := by
    rw [hW0]
    rw [show w.heap.size + 1 = (w.alloc (.cells #[.int .i64 raw.table, .slice Aq nq cq, .int .i64 raw.prio, .int .i64 raw.action, .slice Au nu cu] 26)).heap.size by simp]
    exact heap_alloc_new _ _
  have BP0_0 := Lib.hid b0_0
  have BP0_1 := Lib.hid b0_1
  have HB0 := Lib.hid hB0
  have HW0 := Lib.hid hW0
  have KN0 := cs_newL 120 (by decide) Ac Dc nc cc lc W0 (hrc.kept' (grown_of_below hB0 none) (fun _ => by simp)) (fun h => Nat.lt_of_lt_of_le (hdc h) hB0.size) hlc hcc hmc hsc
  rw [show ((120 : Nat) : Int) = 120 from rfl] at KN0
  have KN := Lib.hid KN0
  clear KN0
  have HRM := Lib.hid hrm
  have HDM := Lib.hid hdm
  have HLM := Lib.hid hlm
  have HSM := Lib.hid hsm
  have HDC := Lib.hid hdc
  clear hB0 hW0 hrc hdc hlc hcc hmc hsc hrm hdm hlm hsm b0_0 b0_1
  go_enter Try.func3, Try.ntmps3
  go_upto_region 1 with fail
  rw [← HW0.out]
  go_wp2_with fail
  with_reducible refine KN.out.mono ?_
  rintro en w2 ⟨rfl, hb2, hl2, hc2⟩
  rw [hz0] at hl2 hc2
  have HB2 := Lib.hid (HB0.out.trans (hb2.mono HB0.out.size))
  have HC2 := Lib.hid hc2
  have hz2 := hb2.size
  have BP2_0 := Lib.hid ((hb2.block (w.heap.size) (by omega)).trans BP0_0.out)
  have BP2_1 := Lib.hid ((hb2.block (w.heap.size + 1) (by omega)).trans BP0_1.out)
  clear hb2 hc2 KN
  go_wp2_with fail
  with_reducible refine (schema_any HC2.out).mono ?_
  rintro en w3 ⟨v0, v1, v2, v3, v4, v5, v6, v7, x, rfl, ⟨hok, -⟩, hel, hg3, p3, -⟩
  have hM := schM_of hok (hel w3 w3.heap.size (.refl (Nat.le_refl _)) (Nat.le_refl _))
  obtain ⟨A0, n0, c0, rfl, _⟩ := hM.f.parts
  obtain ⟨A1, n1, c1, rfl, _⟩ := hM.h.parts
  obtain ⟨A2, n2, c2, rfl, _⟩ := hM.st.parts
  obtain ⟨A3, n3, c3, rfl, _⟩ := hM.a.parts
  obtain ⟨A4, n4, c4, rfl, _⟩ := hM.t.parts
  obtain ⟨A5, n5, c5, rfl, _⟩ := hM.sg.parts
  obtain ⟨A6, n6, c6, rfl, _⟩ := hM.r.parts
  obtain ⟨A7, n7, c7, rfl, _⟩ := hM.rf.parts
  have hz3 := hg3.size
  have BP3_0 := Lib.hid ((hg3.block (w.heap.size) (by omega) (fun e => by injection e with e; omega)).trans BP2_0.out)
  have BP3_1 := Lib.hid ((hg3.block (w.heap.size + 1) (by omega) (fun e => by injection e with e; omega)).trans BP2_1.out)
  have HB3 := Lib.hid (HB2.out.trans (below_grownK hg3 (B := w.heap.size) (by omega) (by omega)))
  have KN20 := cs_newL 60 (by decide) Am Dm nm cm lm w3 ((HRM.out.kept' (grown_of_below HB2.out none) (fun _ => by simp)).kept' hg3 (fun h e => by have := HDM.out h; injection e with e; omega)) (fun h => Nat.lt_of_lt_of_le (HDM.out h) HB3.out.size) HLM.out hcm hmm HSM.out
  rw [show ((60 : Nat) : Int) = 60 from rfl] at KN20
  have KN2 := Lib.hid KN20
  clear KN20
  have HOK := Lib.hid hok
  have HM3 := Lib.hid hM
  clear hM hok hel hg3 HC2
  go_wp2_with fail
  with_reducible refine KN2.out.mono ?_
  rintro en w4 ⟨rfl, hb4, hl4, hc4⟩
  have hz4 := hb4.size
  have BP4_0 := Lib.hid ((hb4.block (w.heap.size) (by omega)).trans BP3_0.out)
  have BP4_1 := Lib.hid ((hb4.block (w.heap.size + 1) (by omega)).trans BP3_1.out)
  obtain ⟨W5, hW5⟩ : ∃ W, W = w4.alloc (.cells #[.slice A0 n0 c0, .slice A1 n1 c1, .slice A2 n2 c2, .slice A3 n3 c3, .slice A4 n4 c4, .slice A5 n5 c5, .slice A6 n6 c6, .slice A7 n7 c7, .int .i64 x.maxBatch, .int .i64 x.budget] 39) := ⟨_, rfl⟩
  have hb5 : Below w4.heap.size w4 W5 := by rw [hW5]; exact (Below.refl _ _).alloc (Nat.le_refl _) _
  have hz5 : W5.heap.size = w4.heap.size + 1 := by rw [hW5]; simp
  have BS5 : Hid (W5.heap[w4.heap.size]? = some (.cells #[.slice A0 n0 c0, .slice A1 n1 c1, .slice A2 n2 c2, .slice A3 n3 c3, .slice A4 n4 c4, .slice A5 n5 c5, .slice A6 n6 c6, .slice A7 n7 c7, .int .i64 x.maxBatch, .int .i64 x.budget] 39 (0, 0))) := Lib.hid (by rw [hW5]; exact heap_alloc_new _ _)
  have BP5_0 := Lib.hid ((hb5.block (w.heap.size) (by omega)).trans BP4_0.out)
  have BP5_1 := Lib.hid ((hb5.block (w.heap.size + 1) (by omega)).trans BP4_1.out)
  have hb45 := hb4.trans (hb5.mono hz4)
  have HB5 := Lib.hid (HB3.out.trans (hb45.mono HB3.out.size))
  have HM5 := Lib.hid (HM3.out.below hb45)
  have HC5 := Lib.hid (hc4.belowC hb5)
  have HW5 := Lib.hid hW5
  have hzw : w.heap.size + 2 ≤ w3.heap.size := by omega
  clear hb4 hb5 hb45 hc4 hW5 KN2 HM3 HRM HDM HLM HSM HDC HB0 HB2 HB3 hl2 hz2 hz3 hz0 HW0 BP0_0 BP2_0 BP3_0 BP4_0 BP0_1 BP2_1 BP3_1 BP4_1
  go_upto_region 2 with fail
  rw [← HW5.out]
  obtain ⟨r, hr4, hwh⟩ := modI_natO which 4 (by decide)
  have hxl := (tables_keys HOK.out.tables).2.1
  obtain ⟨t, ht⟩ : ∃ t, x.tables[r]? = some t := ⟨_, List.getElem?_eq_getElem (by omega)⟩
  have HDM5 : Hid (lm.take 60 ≠ [] → Dm < W5.heap.size) := Lib.hid HC5.out.dlt
  have hKW : w3.heap.size < W5.heap.size := by omega
  have hz4w : w3.heap.size < w4.heap.size := (Array.getElem?_eq_some_iff.1 BS5.out).1 |> fun _ => by omega
  have HGO := Lib.hid (gen_ok HOK.out)
  have KE : Hid (Calls Try.prog 6 #[.pointer (some ⟨w3.heap.size, 0, none⟩), .agg #[.slice A0 n0 c0, .slice A1 n1 c1, .slice A2 n2 c2, .slice A3 n3 c3, .slice A4 n4 c4, .slice A5 n5 c5, .slice A6 n6 c6, .slice A7 n7 c7, .int .i64 x.maxBatch, .int .i64 x.budget], .int .i64 which] W5 (RetEnt w3.heap.size Dm (lm.take 60) x t W5)) := Lib.hid (
    cs_entry W5 w3.heap.size w3.heap.size Dm 0 (lm.take 60) HM5.out HGO.out (by omega) (Nat.le_refl _) (.int .i64 x.maxBatch) (.int .i64 x.budget) HC5.out which r (by rw [hxl]; exact hwh) t ht)
  have HT := Lib.hid (List.mem_of_getElem? ht)
  clear ht hwh hxl
  have s0 : W5.cell? ⟨w4.heap.size, 0, none⟩ = some (.slice A0 n0 c0) := blk_cell BS5.out 0 _ rfl
  have s1 : W5.cell? ⟨w4.heap.size, 1, none⟩ = some (.slice A1 n1 c1) := blk_cell BS5.out 1 _ rfl
  have s2 : W5.cell? ⟨w4.heap.size, 2, none⟩ = some (.slice A2 n2 c2) := blk_cell BS5.out 2 _ rfl
  have s3 : W5.cell? ⟨w4.heap.size, 3, none⟩ = some (.slice A3 n3 c3) := blk_cell BS5.out 3 _ rfl
  have s4 : W5.cell? ⟨w4.heap.size, 4, none⟩ = some (.slice A4 n4 c4) := blk_cell BS5.out 4 _ rfl
  have s5 : W5.cell? ⟨w4.heap.size, 5, none⟩ = some (.slice A5 n5 c5) := blk_cell BS5.out 5 _ rfl
  have s6 : W5.cell? ⟨w4.heap.size, 6, none⟩ = some (.slice A6 n6 c6) := blk_cell BS5.out 6 _ rfl
  have s7 : W5.cell? ⟨w4.heap.size, 7, none⟩ = some (.slice A7 n7 c7) := blk_cell BS5.out 7 _ rfl
  have s8 : W5.cell? ⟨w4.heap.size, 8, none⟩ = some (.int .i64 x.maxBatch) := blk_cell BS5.out 8 _ rfl
  have s9 : W5.cell? ⟨w4.heap.size, 9, none⟩ = some (.int .i64 x.budget) := blk_cell BS5.out 9 _ rfl
  go_upto_region 3 with (go_at_call 6; (with_reducible refine KE.out.mono ?_); rintro en w6 ⟨va, ua, e, rfl, hfit, hma, hua, hg6, hc6⟩; obtain ⟨Ax, nx, cx, rfl, _⟩ := (hma.row (Nat.le_refl _)).parts; obtain ⟨Ay, ny, cy, rfl, _⟩ := (hua.row (Nat.le_refl _)).parts)
  obtain ⟨W7, hW7⟩ : ∃ W, W = w6.alloc (.cells #[.int .i64 e.table, .slice Ax nx cx, .int .i64 e.prio, .int .i64 e.action, .slice Ay ny cy] 26) := ⟨_, rfl⟩
  rw [← hW7]
  have hb7 : Below w6.heap.size w6 W7 := by rw [hW7]; exact (Below.refl _ _).alloc (Nat.le_refl _) _
  have hz7 : W7.heap.size = w6.heap.size + 1 := by rw [hW7]; simp
  have be7 : W7.heap[w6.heap.size]? = some (.cells #[.int .i64 e.table, .slice Ax nx cx, .int .i64 e.prio, .int .i64 e.action, .slice Ay ny cy] 26 (0, 0)) := by rw [hW7]; exact heap_alloc_new _ _
  have hg7 : W5.grownBy W7 (some w3.heap.size) := hg6.trans (grown_of_below hb7 _)
  have hz6 := hg6.size
  have hb5K : w4.heap.size < W5.heap.size := (Array.getElem?_eq_some_iff.1 BS5.out).1
  have bs7 := (hg7.block w4.heap.size (by omega) (fun h => by injection h with h; omega)).trans BS5.out
  have br7 := (hg7.block w.heap.size (by omega) (fun h => by injection h with h; omega)).trans BP5_0.out
  have bv7 := (hg7.block (w.heap.size + 1) (by omega) (fun h => by injection h with h; omega)).trans BP5_1.out
  have hma7 := hma.stay (grown_of_below hb7 none) (Nat.le_refl _) (fun k h => by cases h)
  have hua7 := hua.stay (grown_of_below hb7 none) (Nat.le_refl _) (fun k h => by cases h)
  have hc7 : ∃ p, CoAt w3.heap.size Dm (lm.take 60) p W7 := by obtain ⟨p, hc⟩ := hc6; exact ⟨p, hc.belowC hb7⟩
  have hM7 := HM5.out.below (below_grownK hg7 (Nat.le_refl _) (by omega))
  have hB7 : Below w.heap.size w W7 := HB5.out.trans (below_grownK hg7 (B := w.heap.size) (by omega) (by have := HB5.out.size; omega))
  have hlen : e.ms.length ≤ 1000 ∧ e.args.length ≤ 1000 := ⟨by rw [hfit.len]; exact (HGO.out.kl t HT.out).2, by rw [hfit.alen]; exact HGO.out.prm _⟩
  have HMA := Lib.hid hma7
  have HUA := Lib.hid hua7
  have HBE := Lib.hid be7
  have HBS := Lib.hid bs7
  have HBR := Lib.hid br7
  have HBV := Lib.hid bv7
  have HC7 := Lib.hid hc7
  have HM7 := Lib.hid hM7
  have HB7 := Lib.hid hB7
  have HLN := Lib.hid hlen
  clear hW7 hma7 hua7 be7 bs7 br7 bv7 hc7 hM7 hB7 hlen hfit hma hua hc6 hg6 hb7 hg7 KE BS5 BP5_0 BP5_1 HM5 HC5 HB5 HW5 s0 s1 s2 s3 s4 s5 s6 s7 s8 s9
  go_cut [16] from 24 (fun v16 wx => ∃ (g nn c : Nat) (es : List EntX), v16 = .slice (some ⟨g, 0, none⟩) nn c ∧ Hid (es.length = nn) ∧ nn ≤ c ∧ nn ≤ 1000 ∧ Hid (LiE es wx.heap.size g wx) ∧ Hid (Below w.heap.size w wx))
  case first =>
    obtain ⟨i0, hi0, hz0, hy1, hy2⟩ := info_partsE info_entX
    have HI0 := Lib.hid hi0
    have HZ0 := Lib.hid hz0
    have HY1 := Lib.hid hy1
    have HY2 := Lib.hid hy2
    have HKB : Hid (∀ w' : World, w'.heap[w4.heap.size]? = some (.cells #[.slice A0 n0 c0, .slice A1 n1 c1, .slice A2 n2 c2, .slice A3 n3 c3, .slice A4 n4 c4, .slice A5 n5 c5, .slice A6 n6 c6, .slice A7 n7 c7, .int .i64 x.maxBatch, .int .i64 x.budget] 39 (0, 0)) → w'.heap[w6.heap.size]? = some (.cells #[.int .i64 e.table, .slice Ax nx cx, .int .i64 e.prio, .int .i64 e.action, .slice Ay ny cy] 26 (0, 0)) → w'.heap[w.heap.size]? = some (.cells #[.int .i64 raw.table, .slice Aq nq cq, .int .i64 raw.prio, .int .i64 raw.action, .slice Au nu cu] 26 (0, 0)) → w'.heap[w.heap.size + 1]? = some (.cells #[.int .u64 (hi v), .int .u64 (lo v)] 29 (0, 0)) → w'.cell? ⟨w4.heap.size, 0, none⟩ = some (.slice A0 n0 c0) ∧ w'.cell? ⟨w4.heap.size, 1, none⟩ = some (.slice A1 n1 c1) ∧ w'.cell? ⟨w4.heap.size, 2, none⟩ = some (.slice A2 n2 c2) ∧ w'.cell? ⟨w4.heap.size, 3, none⟩ = some (.slice A3 n3 c3) ∧ w'.cell? ⟨w4.heap.size, 4, none⟩ = some (.slice A4 n4 c4) ∧ w'.cell? ⟨w4.heap.size, 5, none⟩ = some (.slice A5 n5 c5) ∧ w'.cell? ⟨w4.heap.size, 6, none⟩ = some (.slice A6 n6 c6) ∧ w'.cell? ⟨w4.heap.size, 7, none⟩ = some (.slice A7 n7 c7) ∧ w'.cell? ⟨w4.heap.size, 8, none⟩ = some (.int .i64 x.maxBatch) ∧ w'.cell? ⟨w4.heap.size, 9, none⟩ = some (.int .i64 x.budget) ∧ w'.cell? ⟨w6.heap.size, 0, none⟩ = some (.int .i64 e.table) ∧ w'.cell? ⟨w6.heap.size, 1, none⟩ = some (.slice Ax nx cx) ∧ w'.cell? ⟨w6.heap.size, 2, none⟩ = some (.int .i64 e.prio) ∧ w'.cell? ⟨w6.heap.size, 3, none⟩ = some (.int .i64 e.action) ∧ w'.cell? ⟨w6.heap.size, 4, none⟩ = some (.slice Ay ny cy) ∧ w'.cell? ⟨w.heap.size, 0, none⟩ = some (.int .i64 raw.table) ∧ w'.cell? ⟨w.heap.size, 1, none⟩ = some (.slice Aq nq cq) ∧ w'.cell? ⟨w.heap.size, 2, none⟩ = some (.int .i64 raw.prio) ∧ w'.cell? ⟨w.heap.size, 3, none⟩ = some (.int .i64 raw.action) ∧ w'.cell? ⟨w.heap.size, 4, none⟩ = some (.slice Au nu cu) ∧ w'.cell? ⟨w.heap.size + 1, 0, none⟩ = some (.int .u64 (hi v)) ∧ w'.cell? ⟨w.heap.size + 1, 1, none⟩ = some (.int .u64 (lo v))) := Lib.hid fun w' qa qb qc qd => ⟨blk_cell qa 0 _ rfl, blk_cell qa 1 _ rfl, blk_cell qa 2 _ rfl, blk_cell qa 3 _ rfl, blk_cell qa 4 _ rfl, blk_cell qa 5 _ rfl, blk_cell qa 6 _ rfl, blk_cell qa 7 _ rfl, blk_cell qa 8 _ rfl, blk_cell qa 9 _ rfl, blk_cell qb 0 _ rfl, blk_cell qb 1 _ rfl, blk_cell qb 2 _ rfl, blk_cell qb 3 _ rfl, blk_cell qb 4 _ rfl, blk_cell qc 0 _ rfl, blk_cell qc 1 _ rfl, blk_cell qc 2 _ rfl, blk_cell qc 3 _ rfl, blk_cell qc 4 _ rfl, blk_cell qd 0 _ rfl, blk_cell qd 1 _ rfl⟩
    have hszs : w4.heap.size < W7.heap.size ∧ w6.heap.size < W7.heap.size ∧ w.heap.size + 1 < W7.heap.size ∧ w4.heap.size ≠ w3.heap.size ∧ w6.heap.size ≠ w3.heap.size ∧ w.heap.size + 1 < w3.heap.size := ⟨(Array.getElem?_eq_some_iff.1 HBS.out).1, (Array.getElem?_eq_some_iff.1 HBE.out).1, (Array.getElem?_eq_some_iff.1 HBV.out).1, by omega, by omega, by omega⟩
    have HSZ := Lib.hid hszs
    have HKG : Hid (∀ w' : World, W7.grownBy w' (some w3.heap.size) → w'.cell? ⟨w4.heap.size, 0, none⟩ = some (.slice A0 n0 c0) ∧ w'.cell? ⟨w4.heap.size, 1, none⟩ = some (.slice A1 n1 c1) ∧ w'.cell? ⟨w4.heap.size, 2, none⟩ = some (.slice A2 n2 c2) ∧ w'.cell? ⟨w4.heap.size, 3, none⟩ = some (.slice A3 n3 c3) ∧ w'.cell? ⟨w4.heap.size, 4, none⟩ = some (.slice A4 n4 c4) ∧ w'.cell? ⟨w4.heap.size, 5, none⟩ = some (.slice A5 n5 c5) ∧ w'.cell? ⟨w4.heap.size, 6, none⟩ = some (.slice A6 n6 c6) ∧ w'.cell? ⟨w4.heap.size, 7, none⟩ = some (.slice A7 n7 c7) ∧ w'.cell? ⟨w4.heap.size, 8, none⟩ = some (.int .i64 x.maxBatch) ∧ w'.cell? ⟨w4.heap.size, 9, none⟩ = some (.int .i64 x.budget) ∧ w'.cell? ⟨w6.heap.size, 0, none⟩ = some (.int .i64 e.table) ∧ w'.cell? ⟨w6.heap.size, 1, none⟩ = some (.slice Ax nx cx) ∧ w'.cell? ⟨w6.heap.size, 2, none⟩ = some (.int .i64 e.prio) ∧ w'.cell? ⟨w6.heap.size, 3, none⟩ = some (.int .i64 e.action) ∧ w'.cell? ⟨w6.heap.size, 4, none⟩ = some (.slice Ay ny cy) ∧ w'.cell? ⟨w.heap.size, 0, none⟩ = some (.int .i64 raw.table) ∧ w'.cell? ⟨w.heap.size, 1, none⟩ = some (.slice Aq nq cq) ∧ w'.cell? ⟨w.heap.size, 2, none⟩ = some (.int .i64 raw.prio) ∧ w'.cell? ⟨w.heap.size, 3, none⟩ = some (.int .i64 raw.action) ∧ w'.cell? ⟨w.heap.size, 4, none⟩ = some (.slice Au nu cu) ∧ w'.cell? ⟨w.heap.size + 1, 0, none⟩ = some (.int .u64 (hi v)) ∧ w'.cell? ⟨w.heap.size + 1, 1, none⟩ = some (.int .u64 (lo v))) := Lib.hid fun w' hg => by
      have hs := HSZ.out
      exact HKB.out w' ((hg.block _ hs.1 (fun e => by injection e with e; omega)).trans HBS.out) ((hg.block _ hs.2.1 (fun e => by injection e with e; omega)).trans HBE.out) ((hg.block _ (by omega) (fun e => by injection e with e; omega)).trans HBR.out) ((hg.block _ hs.2.2.1 (fun e => by injection e with e; omega)).trans HBV.out)
    have KNS : Hid (Calls Try.prog 7 #[.pointer (some ⟨w3.heap.size, 0, none⟩), .agg #[.slice A0 n0 c0, .slice A1 n1 c1, .slice A2 n2 c2, .slice A3 n3 c3, .slice A4 n4 c4, .slice A5 n5 c5, .slice A6 n6 c6, .slice A7 n7 c7, .int .i64 x.maxBatch, .int .i64 x.budget], .int .i64 4] W7.drew (RetEnts w3.heap.size Dm (lm.take 60) x W7.drew 4)) := Lib.hid (by
      obtain ⟨p, hc⟩ := HC7.out
      have hs := HSZ.out
      exact cs_entries W7.drew w3.heap.size w3.heap.size Dm p (lm.take 60) (HM7.out.below (Below.drew (Below.refl _ _))) HGO.out (by show w3.heap.size ≤ W7.heap.size; omega) (Nat.le_refl _) (.int .i64 x.maxBatch) (.int .i64 x.budget) hc.drew 4 (by decide))
    have KL : Hid (∀ W, Calls Try.prog 9 #[.agg #[.int .u64 (hi v), .int .u64 (lo v)], .int .i64 3] W (RetV (lowB v 3) W)) := Lib.hid fun W => cs_low v 3 HV.out (by omega) W
    have KB1 : Hid (∀ W : World, RowV 8 MatchV W.heap.size W (.slice Ax nx cx) e.ms → RowV 2 ValV W.heap.size W (.slice Ay ny cy) e.args → Calls Try.prog 8 #[.agg #[.int .i64 e.table, .slice Ax nx cx, .int .i64 e.prio, .int .i64 e.action, .slice Ay ny cy], .int .i64 which, .int .i64 (bits .and .i64 n 3), .agg #[.int .u64 (hi (lowB v 3)), .int .u64 (lo (lowB v 3))]] W (RetBent W)) := Lib.hid fun W h1 h2 => by
      have l1 := h1.len.1.out
      have l2 := h2.len.1.out
      have := HLN.out
      exact bent_any e h1 h2 (Nat.le_refl _) which _ (and3O n) (lowB v 3) (Nat.lt_of_le_of_lt (Nat.mod_le _ _) HV.out) (by omega) (by omega)
    have KB2 : Hid (∀ W : World, RowV 8 MatchV W.heap.size W (.slice Aq nq cq) raw.ms → RowV 2 ValV W.heap.size W (.slice Au nu cu) raw.args → Calls Try.prog 8 #[.agg #[.int .i64 raw.table, .slice Aq nq cq, .int .i64 raw.prio, .int .i64 raw.action, .slice Au nu cu], .int .i64 which, .int .i64 n, .agg #[.int .u64 (hi v), .int .u64 (lo v)]] W (RetBent W)) := Lib.hid fun W h1 h2 => bent_any raw h1 h2 (Nat.le_refl _) which n HQ.out v HV.out hrn hrm2
    refine wp_region_lastH (N := 19) (S := fun w' => w'.cell? ⟨w4.heap.size, 0, none⟩ = some (.slice A0 n0 c0) ∧ w'.cell? ⟨w4.heap.size, 1, none⟩ = some (.slice A1 n1 c1) ∧ w'.cell? ⟨w4.heap.size, 2, none⟩ = some (.slice A2 n2 c2) ∧ w'.cell? ⟨w4.heap.size, 3, none⟩ = some (.slice A3 n3 c3) ∧ w'.cell? ⟨w4.heap.size, 4, none⟩ = some (.slice A4 n4 c4) ∧ w'.cell? ⟨w4.heap.size, 5, none⟩ = some (.slice A5 n5 c5) ∧ w'.cell? ⟨w4.heap.size, 6, none⟩ = some (.slice A6 n6 c6) ∧ w'.cell? ⟨w4.heap.size, 7, none⟩ = some (.slice A7 n7 c7) ∧ w'.cell? ⟨w4.heap.size, 8, none⟩ = some (.int .i64 x.maxBatch) ∧ w'.cell? ⟨w4.heap.size, 9, none⟩ = some (.int .i64 x.budget) ∧ w'.cell? ⟨w6.heap.size, 0, none⟩ = some (.int .i64 e.table) ∧ w'.cell? ⟨w6.heap.size, 1, none⟩ = some (.slice Ax nx cx) ∧ w'.cell? ⟨w6.heap.size, 2, none⟩ = some (.int .i64 e.prio) ∧ w'.cell? ⟨w6.heap.size, 3, none⟩ = some (.int .i64 e.action) ∧ w'.cell? ⟨w6.heap.size, 4, none⟩ = some (.slice Ay ny cy) ∧ w'.cell? ⟨w.heap.size, 0, none⟩ = some (.int .i64 raw.table) ∧ w'.cell? ⟨w.heap.size, 1, none⟩ = some (.slice Aq nq cq) ∧ w'.cell? ⟨w.heap.size, 2, none⟩ = some (.int .i64 raw.prio) ∧ w'.cell? ⟨w.heap.size, 3, none⟩ = some (.int .i64 raw.action) ∧ w'.cell? ⟨w.heap.size, 4, none⟩ = some (.slice Au nu cu) ∧ w'.cell? ⟨w.heap.size + 1, 0, none⟩ = some (.int .u64 (hi v)) ∧ w'.cell? ⟨w.heap.size + 1, 1, none⟩ = some (.int .u64 (lo v))) (by kernel_rfl) (by kernel_rfl) (HKB.out _ HBS.out HBE.out HBR.out HBV.out) (fun hHeld => ?_)
    simp only [List.pop_toArray, List.dropLast_cons_cons, List.dropLast_singleton]
    refine wpAnyH_take (i := 0) (oi := _) (v := ?_) rfl (by kernel_rfl) (by kernel_rfl) (by kernel_rfl) (fun _ _ _ h => h) (Or.inl ⟨by rfl, ?_⟩) hHeld ?_
    rotate_left
    · (intro w1 hSw; (try dsimp only at hSw); go_simp; all_goals with_reducible rfl)
    (try go_frame)
    refine wpAnyH_take (i := 1) (oi := _) (v := ?_) rfl (by kernel_rfl) (by kernel_rfl) (by kernel_rfl) (fun _ _ _ h => h) (Or.inl ⟨by rfl, ?_⟩) hHeld ?_
    rotate_left
    · (intro w1 hSw; (try dsimp only at hSw); go_simp; all_goals with_reducible rfl)
    (try go_frame)
    refine wpAnyH_take (i := 3) (oi := _) (v := ?_) rfl (by kernel_rfl) (by kernel_rfl) (by kernel_rfl) (fun _ _ _ h => h) (Or.inl ⟨by rfl, ?_⟩) hHeld ?_
    rotate_left
    · (intro w1 hSw; (try dsimp only at hSw); go_simp; all_goals with_reducible rfl)
    (try go_frame)
    refine wpAnyH_take (i := 4) (oi := _) (v := ?_) rfl (by kernel_rfl) (by kernel_rfl) (by kernel_rfl) (fun _ _ _ h => h) (Or.inl ⟨by rfl, ?_⟩) hHeld ?_
    rotate_left
    · (intro w1 hSw; (try dsimp only at hSw); go_simp; all_goals with_reducible rfl)
    (try go_frame)
    refine wpAnyH_take (i := 5) (oi := _) (v := ?_) rfl (by kernel_rfl) (by kernel_rfl) (by kernel_rfl) (fun _ _ _ h => h) (Or.inl ⟨by rfl, ?_⟩) hHeld ?_
    rotate_left
    · (intro w1 hSw; (try dsimp only at hSw); go_simp; all_goals with_reducible rfl)
    (try go_frame)
    refine wpAnyH_take (i := 6) (oi := _) (v := ?_) rfl (by kernel_rfl) (by kernel_rfl) (by kernel_rfl) (fun _ _ _ h => h) (Or.inl ⟨by rfl, ?_⟩) hHeld ?_
    rotate_left
    · (intro w1 hSw; (try dsimp only at hSw); go_simp; all_goals with_reducible rfl)
    (try go_frame)
    refine wpAnyH_take (i := 7) (oi := _) (v := ?_) rfl (by kernel_rfl) (by kernel_rfl) (by kernel_rfl) (fun _ _ _ h => h) (Or.inl ⟨by rfl, ?_⟩) hHeld ?_
    rotate_left
    · (intro w1 hSw; (try dsimp only at hSw); go_simp; all_goals with_reducible rfl)
    (try go_frame)
    refine wpAnyH_take (i := 8) (oi := _) (v := ?_) rfl (by kernel_rfl) (by kernel_rfl) (by kernel_rfl) (fun _ _ _ h => h) (Or.inl ⟨by rfl, ?_⟩) hHeld ?_
    rotate_left
    · (intro w1 hSw; (try dsimp only at hSw); go_simp; all_goals with_reducible rfl)
    (try go_frame)
    refine wpAnyH_take (i := 11) (oi := _) (v := ?_) rfl (by kernel_rfl) (by kernel_rfl) (by kernel_rfl) (fun _ _ _ h => h) (Or.inl ⟨by rfl, ?_⟩) hHeld ?_
    rotate_left
    · (intro w1 hSw; (try dsimp only at hSw); go_simp; all_goals with_reducible rfl)
    (try go_frame)
    refine wpAnyH_take (i := 12) (oi := _) (v := ?_) rfl (by kernel_rfl) (by kernel_rfl) (by kernel_rfl) (fun _ _ _ h => h) (Or.inl ⟨by rfl, ?_⟩) hHeld ?_
    rotate_left
    · (intro w1 hSw; (try dsimp only at hSw); go_simp; all_goals with_reducible rfl)
    (try go_frame)
    refine wpAnyH_take (i := 13) (oi := _) (v := ?_) rfl (by kernel_rfl) (by kernel_rfl) (by kernel_rfl) (fun _ _ _ h => h) (Or.inl ⟨by rfl, ?_⟩) hHeld ?_
    rotate_left
    · (intro w1 hSw; (try dsimp only at hSw); go_simp; all_goals with_reducible rfl)
    (try go_frame)
    refine wpAnyH_take (i := 14) (oi := _) (v := ?_) rfl (by kernel_rfl) (by kernel_rfl) (by kernel_rfl) (fun _ _ _ h => h) (Or.inl ⟨by rfl, ?_⟩) hHeld ?_
    rotate_left
    · (intro w1 hSw; (try dsimp only at hSw); go_simp; all_goals with_reducible rfl)
    (try go_frame)
    refine wpAnyH_take (i := 15) (oi := _) (v := ?_) rfl (by kernel_rfl) (by kernel_rfl) (by kernel_rfl) (fun _ _ _ h => h) (Or.inl ⟨by rfl, ?_⟩) hHeld ?_
    rotate_left
    · (intro w1 hSw; (try dsimp only at hSw); go_simp; all_goals with_reducible rfl)
    (try go_frame)
    refine wpAnyH_ready (rs := [2]) (by kernel_rfl) (by simp) ?_
    refine AllReadyH.cons (o := _) rfl (fun K hK => ?_) AllReadyH.nil
    go_simp
    go_wp2_with (go_at_call 7; (with_reducible refine KNS.out.mono ?_); rintro en w8 ⟨v8, xs, rfl, hxn, ho8, hk8, hg8, hc8⟩; obtain ⟨A8, c8, rfl⟩ := own_shapeE ho8; have HO8 := Lib.hid ho8; have HK8 := Lib.hid hk8; have G8 : Hid (W7.grownBy w8 (some w3.heap.size)) := Lib.hid ⟨hg8.os, hg8.tape, hg8.output, hg8.size, hg8.block⟩; clear ho8 hk8 hg8 hc8)
    refine hK.out _ _ ?_ (fun hHeld2 => ?_)
    · exact HKG.out _ G8.out
    clear hK K hHeld
    have hHeld := hHeld2
    clear hHeld2
    (try go_frame)
    refine wpAnyH_ready (rs := [9]) (by kernel_rfl) (by simp) ?_
    refine AllReadyH.cons (o := _) rfl (fun K hK => ?_) AllReadyH.nil
    go_simp
    go_wp2_with (go_at_call 9; (with_reducible refine (KL.out _).mono ?_); rintro en w9 ⟨rfl, hb9⟩; have G9 : Hid (W7.grownBy w9 (some w3.heap.size)) := Lib.hid (G8.out.trans (grown_of_below hb9 _)); have HB9 := Lib.hid hb9; have R9 := Lib.hid ((HMA.out.stay G9.out (by omega) (fun k h => by injection h with h; omega)).row (by have := G9.out.size; omega)); have Q9 := Lib.hid ((HUA.out.stay G9.out (by omega) (fun k h => by injection h with h; omega)).row (by have := G9.out.size; omega)); clear hb9)
    refine hK.out _ _ ?_ (fun hHeld2 => ?_)
    · exact HKG.out _ G9.out
    clear hK K hHeld
    have hHeld := hHeld2
    clear hHeld2
    (try go_frame)
    refine wpAnyH_ready (rs := [10]) (by kernel_rfl) (by simp) ?_
    refine AllReadyH.cons (o := _) rfl (fun K hK => ?_) AllReadyH.nil
    go_simp
    go_wp2_with (go_at_call 8; (with_reducible refine (KB1.out _ R9.out Q9.out).mono ?_); rintro en w10 ⟨e1, Aa, Ua, na, ca, ma, da, rfl, hp10, hq10, hb10⟩; have HP10 := Lib.hid hp10; have HQ10 := Lib.hid hq10; have HB10 := Lib.hid hb10; have G10 : Hid (W7.grownBy w10 (some w3.heap.size)) := Lib.hid (G9.out.trans (grown_of_below hb10 _)); have B10 : Hid (Below w.heap.size w w10) := Lib.hid (HB7.out.trans (below_grownK G10.out (B := w.heap.size) (by omega) (by have := HB7.out.size; omega))); clear hp10 hq10 hb10)
    refine hK.out _ _ ?_ (fun hHeld2 => ?_)
    · exact HKG.out _ G10.out
    clear hK K hHeld
    have hHeld := hHeld2
    clear hHeld2
    (try go_frame)
    refine wpAnyH_ready (rs := [16]) (by kernel_rfl) (by simp) ?_
    refine AllReadyH.cons (o := _) rfl (fun K hK => ?_) AllReadyH.nil
    go_simp
    go_wp2_with (go_at_call 8; (with_reducible refine (KB2.out _ ((HRAW.out.below kept_match B10.out).up up_match B10.out.size) ((HRA.out.below kept_val B10.out).up up_val B10.out.size)).mono ?_); rintro en w11 ⟨e2, Ab, Ub, nb, cb, mb, db, rfl, hp11, hq11, hb11⟩; have HP11 := Lib.hid hp11; have HQ11 := Lib.hid hq11; have HB11 := Lib.hid hb11; have G11 : Hid (W7.grownBy w11 (some w3.heap.size)) := Lib.hid (G10.out.trans (grown_of_below hb11 _)); clear hp11 hq11 hb11)
    refine hK.out _ _ ?_ (fun hHeld2 => ?_)
    · exact HKG.out _ G11.out
    clear hK K hHeld
    have hHeld := hHeld2
    clear hHeld2
    (try go_frame)
    obtain ⟨w12, hw12⟩ : ∃ W, W = w11.alloc (.cells #[.int .i64 e.table, .slice Ax nx cx, .int .i64 e.prio, .int .i64 e.action, .slice Ay ny cy, .int .i64 e1.table, .slice Aa na ca, .int .i64 e1.prio, .int .i64 e1.action, .slice Ua ma da, .int .i64 raw.table, .slice Aq nq cq, .int .i64 raw.prio, .int .i64 raw.action, .slice Au nu cu, .int .i64 e2.table, .slice Ab nb cb, .int .i64 e2.prio, .int .i64 e2.action, .slice Ub mb db] 26) := ⟨_, rfl⟩
    have hb12 : Below w11.heap.size w11 w12 := by rw [hw12]; exact (Below.refl _ _).alloc (Nat.le_refl _) _
    have HB12 := Lib.hid hb12
    have N12 : w12.heap[w11.heap.size]? = some (.cells #[.int .i64 e.table, .slice Ax nx cx, .int .i64 e.prio, .int .i64 e.action, .slice Ay ny cy, .int .i64 e1.table, .slice Aa na ca, .int .i64 e1.prio, .int .i64 e1.action, .slice Ua ma da, .int .i64 raw.table, .slice Aq nq cq, .int .i64 raw.prio, .int .i64 raw.action, .slice Au nu cu, .int .i64 e2.table, .slice Ab nb cb, .int .i64 e2.prio, .int .i64 e2.action, .slice Ub mb db] 26 (0, 0)) := by rw [hw12]; exact heap_alloc_new _ _
    have g12 : w8.grownBy w12 none := ((grown_of_below HB9.out none).trans (grown_of_below HB10.out none)).trans ((grown_of_below HB11.out none).trans (grown_of_below hb12 none))
    have O12 := Lib.hid (World.ownsRow.kept HO8.out g12 (by cases (Value.slice A8 xs.length c8).ownBlock <;> simp))
    have G12 : Hid (W7.grownBy w12 (some w3.heap.size)) := Lib.hid (G11.out.trans (grown_of_below hb12 _))
    refine wpAnyH_ready (rs := [17]) (by kernel_rfl) (by simp) ?_
    refine AllReadyH.cons (o := _) rfl (fun K hK => ?_) AllReadyH.nil
    go_simp
    rw [← hw12]
    refine hK.out _ _ ?_ (fun hHeld2 => ?_)
    · exact HKG.out _ G12.out
    clear hK K hHeld
    have hHeld := hHeld2
    clear hHeld2
    (try go_frame)
    have hz12 := G12.out.size
    refine wpAnyH_ready (rs := [18]) (by kernel_rfl) (by simp) ?_
    refine AllReadyH.cons (o := _) rfl (fun K hK => ?_) AllReadyH.nil
    refine step_appQ rfl (.tmp 35) (.tmp 50) 44 (by rfl) (W7.heap.size + 1) 26 i0 _ 5 72 Try.underlying44 HI0.out HZ0.out HY1.out HY2.out rfl (by decide) (.slice A8 xs.length c8) xs.length _ (by rfl) O12.out (some ⟨w11.heap.size, 0, none⟩) 4 4 ([⟨e, .slice Ax nx cx, .slice Ay ny cy⟩, ⟨e1, .slice Aa na ca, .slice Ua ma da⟩, ⟨raw, .slice Aq nq cq, .slice Au nu cu⟩, ⟨e2, .slice Ab nb cb, .slice Ub mb db⟩].flatMap EntX.cells) (by rfl) rfl (.inr ⟨_, rfl, World.news_of_block N12⟩) (by intro u hu; obtain ⟨y, hy, hu⟩ := List.mem_flatMap.1 hu; simp only [List.mem_cons, List.not_mem_nil, or_false] at hy; rcases hy with rfl | rfl | rfl | rfl <;> exact entX_one _ rfl rfl _ hu) (by unfold maxLen; omega) (by omega) (by have h1 := (Array.getElem?_eq_some_iff.1 N12).1; have h2 := G11.out.size; omega) ?_
    intro v13 w13 hO13 hg13 hn13
    obtain ⟨A13, c13, rfl, hA13, hnc13, _⟩ := own_shapeB hO13
    obtain ⟨g13, rfl⟩ := hA13 (by omega)
    rw [← List.flatMap_append] at hO13
    have hob : ∀ k, (Value.slice A8 xs.length c8).ownBlock = some k → W7.heap.size + 1 ≤ k := fun k hk => (World.ownsRow.lt O12.out k hk).1
    have hs := HSZ.out
    have hst : w13.cell? ⟨w4.heap.size, 0, none⟩ = some (.slice A0 n0 c0) ∧ w13.cell? ⟨w4.heap.size, 1, none⟩ = some (.slice A1 n1 c1) ∧ w13.cell? ⟨w4.heap.size, 2, none⟩ = some (.slice A2 n2 c2) ∧ w13.cell? ⟨w4.heap.size, 3, none⟩ = some (.slice A3 n3 c3) ∧ w13.cell? ⟨w4.heap.size, 4, none⟩ = some (.slice A4 n4 c4) ∧ w13.cell? ⟨w4.heap.size, 5, none⟩ = some (.slice A5 n5 c5) ∧ w13.cell? ⟨w4.heap.size, 6, none⟩ = some (.slice A6 n6 c6) ∧ w13.cell? ⟨w4.heap.size, 7, none⟩ = some (.slice A7 n7 c7) ∧ w13.cell? ⟨w4.heap.size, 8, none⟩ = some (.int .i64 x.maxBatch) ∧ w13.cell? ⟨w4.heap.size, 9, none⟩ = some (.int .i64 x.budget) ∧ w13.cell? ⟨w6.heap.size, 0, none⟩ = some (.int .i64 e.table) ∧ w13.cell? ⟨w6.heap.size, 1, none⟩ = some (.slice Ax nx cx) ∧ w13.cell? ⟨w6.heap.size, 2, none⟩ = some (.int .i64 e.prio) ∧ w13.cell? ⟨w6.heap.size, 3, none⟩ = some (.int .i64 e.action) ∧ w13.cell? ⟨w6.heap.size, 4, none⟩ = some (.slice Ay ny cy) ∧ w13.cell? ⟨w.heap.size, 0, none⟩ = some (.int .i64 raw.table) ∧ w13.cell? ⟨w.heap.size, 1, none⟩ = some (.slice Aq nq cq) ∧ w13.cell? ⟨w.heap.size, 2, none⟩ = some (.int .i64 raw.prio) ∧ w13.cell? ⟨w.heap.size, 3, none⟩ = some (.int .i64 raw.action) ∧ w13.cell? ⟨w.heap.size, 4, none⟩ = some (.slice Au nu cu) ∧ w13.cell? ⟨w.heap.size + 1, 0, none⟩ = some (.int .u64 (hi v)) ∧ w13.cell? ⟨w.heap.size + 1, 1, none⟩ = some (.int .u64 (lo v)) := HKB.out w13 ((hg13.block _ (by omega) (fun h => by have := hob _ h.symm; omega)).trans ((G12.out.block _ (by omega) (fun h => by injection h with h; omega)).trans HBS.out)) ((hg13.block _ (by omega) (fun h => by have := hob _ h.symm; omega)).trans ((G12.out.block _ (by omega) (fun h => by injection h with h; omega)).trans HBE.out)) ((hg13.block _ (by omega) (fun h => by have := hob _ h.symm; omega)).trans ((G12.out.block _ (by omega) (fun h => by injection h with h; omega)).trans HBR.out)) ((hg13.block _ (by omega) (fun h => by have := hob _ h.symm; omega)).trans ((G12.out.block _ (by omega) (fun h => by injection h with h; omega)).trans HBV.out))
    obtain ⟨hrows, hbw⟩ := li_end (W7 := W7) (E0 := ⟨e, .slice Ax nx cx, .slice Ay ny cy⟩) (E1 := ⟨e1, .slice Aa na ca, .slice Ua ma da⟩) (E2 := ⟨raw, .slice Aq nq cq, .slice Au nu cu⟩) (E3 := ⟨e2, .slice Ab nb cb, .slice Ub mb db⟩) HO8.out HK8.out G8.out HB9.out HB10.out HB11.out HB12.out hg13 (a6 := W5.heap.size) (b6 := w6.heap.size) (by omega) (by omega) (by omega) HB7.out HMA.out HUA.out HP10.out HQ10.out HRAW.out HRA.out HP11.out HQ11.out
    have HL13 := Lib.hid (LiE.of_own hO13 (by simp) hrows)
    have HBW := Lib.hid hbw
    clear hO13 hg13 hn13 hrows hbw hob
    refine hK.out _ _ ?_ (fun hHeld2 => ?_)
    · exact hst
    clear hK K hHeld hst
    have hHeld := hHeld2
    clear hHeld2
    (try go_frame)
    refine wpAnyH_done (by kernel_rfl) ?_ _
    unfold QL
    refine wpOp_step rfl (fun K hK => ?_)
    clear hHeld
    go_simp
    refine hK _ _ ?_
    clear hK K
    go_wp2_with fail
    go_meet
    exact ⟨g13, xs.length + 4, c13, _, rfl, Lib.hid (by simp), hnc13, by omega, HL13, HBW⟩
  case rest =>
    obtain ⟨g, nn, c, es, rfl, hes, hnc, hn1, HL, HBW⟩ := hcut
    obtain ⟨WB, hWB⟩ : ∃ W, W = wc := ⟨_, rfl⟩
    subst hWB
    have HES := hes
    have KC : Hid (∀ (W : World) (y z : EntX), Below WB.heap.size WB W → y ∈ es → z ∈ es → Calls Try.prog 10 #[.agg #[.int .i64 y.d.table, y.v, .int .i64 y.d.prio, .int .i64 y.d.action, y.u], .agg #[.int .i64 z.d.table, z.v, .int .i64 z.d.prio, .int .i64 z.d.action, z.u]] W (RetX (.int .i64 (entI y.d z.d)) W)) := Lib.hid fun W y z hb hy hz => (HL.out.below hb).ent hy hz hb.size
    have KR : Hid (∀ (W : World) (y z : EntX), Below WB.heap.size WB W → y ∈ es → z ∈ es → Calls Try.prog 11 #[.agg #[.int .i64 y.d.table, y.v, .int .i64 y.d.prio, .int .i64 y.d.action, y.u], .agg #[.int .i64 z.d.table, z.v, .int .i64 z.d.prio, .int .i64 z.d.action, z.u]] W (RetX (.int .i64 (entI y.d z.d)) W)) := Lib.hid fun W y z hb hy hz => (HL.out.below hb).ref hy hz hb.size
    have KS : Hid (∀ (W : World) (y z : EntX), Below WB.heap.size WB W → y ∈ es → z ∈ es → Calls Try.prog 12 #[.agg #[.int .i64 y.d.table, y.v, .int .i64 y.d.prio, .int .i64 y.d.action, y.u], .agg #[.int .i64 z.d.table, z.v, .int .i64 z.d.prio, .int .i64 z.d.action, z.u]] W (SaysP (sameE y.d z.d) W)) := Lib.hid fun W y z hb hy hz => (HL.out.below hb).same hy hz hb.size
    have KK : Hid (∀ (W : World) (y z : EntX), Below WB.heap.size WB W → y ∈ es → z ∈ es → Calls Try.prog 13 #[.agg #[.int .i64 y.d.table, y.v, .int .i64 y.d.prio, .int .i64 y.d.action, y.u], .agg #[.int .i64 z.d.table, z.v, .int .i64 z.d.prio, .int .i64 z.d.action, z.u]] W (SaysP (y.d.table = z.d.table ∧ y.d.prio = z.d.prio ∧ y.d.ms = z.d.ms) W)) := Lib.hid fun W y z hb hy hz => (HL.out.below hb).key hy hz hb.size
    have KQ : Hid (∀ (W : World) (y z : EntX), Below WB.heap.size WB W → y ∈ es → z ∈ es → Calls Try.prog 14 #[.agg #[.int .i64 y.d.table, y.v, .int .i64 y.d.prio, .int .i64 y.d.action, y.u], .agg #[.int .i64 z.d.table, z.v, .int .i64 z.d.prio, .int .i64 z.d.action, z.u]] W (SaysP (y.d.table = z.d.table ∧ y.d.prio = z.d.prio ∧ y.d.ms = z.d.ms) W)) := Lib.hid fun W y z hb hy hz => (HL.out.below hb).rkey hy hz hb.size
    clear HMA HUA HBE HBS HBR HBV HC7 HM7 HB7 HLN HRAW HRA HDMW HQ HV HGO HT HDM5 HOK hes
    go_wp2_with fail
    go_loopw [54] (fun i W => ∃ k : Nat, k ≤ nn ∧ i = .int .i64 (k : Int) ∧ Below WB.heap.size WB W) (fun i _ => nn - (intOf i).toNat)
    case atStart => exact ⟨0, Nat.zero_le _, rfl, Below.refl _ _⟩
    case round =>
      obtain ⟨k, hk, rfl, hb⟩ := hrel
      have HB1 := Lib.hid hb
      clear hb
      by_cases hlt : k < nn
      · have j1 : (k : Int) < (nn : Int) := by omega
        have j2 : (k : Int) < (c : Int) := by omega
        have j3 : (0 : Int) ≤ (k : Int) := by omega
        have hli := HL.out.below HB1.out
        obtain ⟨y, yA, yn, yc, yB, ym, yk, hy⟩ := hli.elem k (by rw [HES.out]; exact hlt)
        have My := Lib.hid (List.mem_of_getElem? hy)
        have l0 : wr.cell? ⟨g, k * 5, none⟩ = some (.int .i64 y.table) := hli.cells k _ 0 _ hy rfl
        have l1 : wr.cell? ⟨g, k * 5 + 1, none⟩ = some (.slice yA yn yc) := hli.cells k _ 1 _ hy rfl
        have l2 : wr.cell? ⟨g, k * 5 + 2, none⟩ = some (.int .i64 y.prio) := hli.cells k _ 2 _ hy rfl
        have l3 : wr.cell? ⟨g, k * 5 + 3, none⟩ = some (.int .i64 y.action) := hli.cells k _ 3 _ hy rfl
        have l4 : wr.cell? ⟨g, k * 5 + 4, none⟩ = some (.slice yB ym yk) := hli.cells k _ 4 _ hy rfl
        clear hli hy
        obtain ⟨a1, ha⟩ : ∃ zz, zz = wr.heap.size := ⟨_, rfl⟩
        obtain ⟨V1, hV⟩ : ∃ zz, zz = wr.alloc (.cells #[.int .i64 y.table, .slice yA yn yc, .int .i64 y.prio, .int .i64 y.action, .slice yB ym yk] 26) := ⟨_, rfl⟩
        have hb1 : Below wr.heap.size wr V1 := by rw [hV]; exact (Below.refl _ _).alloc (Nat.le_refl _) _
        have X1 : Hid (V1.heap[a1]? = some (.cells #[.int .i64 y.table, .slice yA yn yc, .int .i64 y.prio, .int .i64 y.action, .slice yB ym yk] 26 (0, 0))) := Lib.hid (by rw [ha, hV]; exact heap_alloc_new _ _)
        have HA1 := Lib.hid ha
        have HV1 := Lib.hid hV
        clear ha hV
        have BV1 : Hid (Below WB.heap.size WB V1) := Lib.hid (HB1.out.trans (hb1.mono HB1.out.size))
        go_upto_region 7 with fail
        rw [← HV1.out, ← HA1.out]
        clear l0 l1 l2 l3 l4 hb1 HA1 HV1
        go_wp2_with fail
        go_loopw [60] (fun i W => ∃ q : Nat, q ≤ nn ∧ i = .int .i64 (q : Int) ∧ Below V1.heap.size V1 W) (fun i _ => nn - (intOf i).toNat)
        case atStart => exact ⟨0, Nat.zero_le _, rfl, Below.refl _ _⟩
        case round =>
          obtain ⟨q, hq, rfl, hb⟩ := hrel
          have HB2 := Lib.hid hb
          have HC2 : Hid (Below WB.heap.size WB wr) := Lib.hid (BV1.out.trans (hb.mono BV1.out.size))
          have HLK := Lib.hid hlt
          clear hb hlt j1 j2 j3
          by_cases hlt : q < nn
          · have j1 : (q : Int) < (nn : Int) := by omega
            have j2 : (q : Int) < (c : Int) := by omega
            have j3 : (0 : Int) ≤ (q : Int) := by omega
            have hli := HL.out.below HC2.out
            obtain ⟨z, zA, zn, zc, zB, zm, zk, hz⟩ := hli.elem q (by rw [HES.out]; exact hlt)
            have Mz := Lib.hid (List.mem_of_getElem? hz)
            have l0 : wr.cell? ⟨g, q * 5, none⟩ = some (.int .i64 z.table) := hli.cells q _ 0 _ hz rfl
            have l1 : wr.cell? ⟨g, q * 5 + 1, none⟩ = some (.slice zA zn zc) := hli.cells q _ 1 _ hz rfl
            have l2 : wr.cell? ⟨g, q * 5 + 2, none⟩ = some (.int .i64 z.prio) := hli.cells q _ 2 _ hz rfl
            have l3 : wr.cell? ⟨g, q * 5 + 3, none⟩ = some (.int .i64 z.action) := hli.cells q _ 3 _ hz rfl
            have l4 : wr.cell? ⟨g, q * 5 + 4, none⟩ = some (.slice zB zm zk) := hli.cells q _ 4 _ hz rfl
            clear hli hz
            obtain ⟨a2, ha⟩ : ∃ zz, zz = wr.heap.size := ⟨_, rfl⟩
            obtain ⟨V2, hV⟩ : ∃ zz, zz = wr.alloc (.cells #[.int .i64 z.table, .slice zA zn zc, .int .i64 z.prio, .int .i64 z.action, .slice zB zm zk] 26) := ⟨_, rfl⟩
            have hb2 : Below wr.heap.size wr V2 := by rw [hV]; exact (Below.refl _ _).alloc (Nat.le_refl _) _
            have X2 : Hid (V2.heap[a2]? = some (.cells #[.int .i64 z.table, .slice zA zn zc, .int .i64 z.prio, .int .i64 z.action, .slice zB zm zk] 26 (0, 0))) := Lib.hid (by rw [ha, hV]; exact heap_alloc_new _ _)
            have HA2 := Lib.hid ha
            have HV2 := Lib.hid hV
            clear ha hV
            have BV2 : Hid (Below WB.heap.size WB V2) := Lib.hid (HC2.out.trans (hb2.mono HC2.out.size))
            have XX1 : Hid (V2.heap[a1]? = some (.cells #[.int .i64 y.table, .slice yA yn yc, .int .i64 y.prio, .int .i64 y.action, .slice yB ym yk] 26 (0, 0))) := Lib.hid ((hb2.block _ (Nat.lt_of_lt_of_le (Array.getElem?_eq_some_iff.1 X1.out).1 HB2.out.size)).trans ((HB2.out.block _ (Array.getElem?_eq_some_iff.1 X1.out).1).trans X1.out))
            have HB3 : Hid (Below V1.heap.size V1 V2) := Lib.hid (HB2.out.trans (hb2.mono HB2.out.size))
            have HKS : Hid (∀ w', Below V2.heap.size V2 w' → w'.cell? ⟨a1, 0, none⟩ = some (.int .i64 y.table) ∧ w'.cell? ⟨a1, 1, none⟩ = some (.slice yA yn yc) ∧ w'.cell? ⟨a1, 2, none⟩ = some (.int .i64 y.prio) ∧ w'.cell? ⟨a1, 3, none⟩ = some (.int .i64 y.action) ∧ w'.cell? ⟨a1, 4, none⟩ = some (.slice yB ym yk) ∧ w'.cell? ⟨a2, 0, none⟩ = some (.int .i64 z.table) ∧ w'.cell? ⟨a2, 1, none⟩ = some (.slice zA zn zc) ∧ w'.cell? ⟨a2, 2, none⟩ = some (.int .i64 z.prio) ∧ w'.cell? ⟨a2, 3, none⟩ = some (.int .i64 z.action) ∧ w'.cell? ⟨a2, 4, none⟩ = some (.slice zB zm zk)) := Lib.hid fun w' hb => by
              have qa := (hb.block _ (Array.getElem?_eq_some_iff.1 XX1.out).1).trans XX1.out
              have qb := (hb.block _ (Array.getElem?_eq_some_iff.1 X2.out).1).trans X2.out
              exact ⟨blk_cell qa 0 _ rfl, blk_cell qa 1 _ rfl, blk_cell qa 2 _ rfl, blk_cell qa 3 _ rfl, blk_cell qa 4 _ rfl, blk_cell qb 0 _ rfl, blk_cell qb 1 _ rfl, blk_cell qb 2 _ rfl, blk_cell qb 3 _ rfl, blk_cell qb 4 _ rfl⟩
            have ANTI := Lib.hid (pre_ent.anti y z)
            have RNG := Lib.hid (rng_ent y z)
            have ZER := Lib.hid (ent0 y z)
            obtain ⟨kk, hkk⟩ : ∃ kk, kk = entI y z := ⟨_, rfl⟩
            have HKK := Lib.hid hkk
            have K10 : Hid (∀ W : World, Below WB.heap.size WB W → Calls Try.prog 10 #[.agg #[.int .i64 y.table, .slice yA yn yc, .int .i64 y.prio, .int .i64 y.action, .slice yB ym yk], .agg #[.int .i64 z.table, .slice zA zn zc, .int .i64 z.prio, .int .i64 z.action, .slice zB zm zk]] W (RetX (.int .i64 kk) W)) := Lib.hid fun W hb => by rw [HKK.out]; exact KC.out W (⟨y, .slice yA yn yc, .slice yB ym yk⟩ : EntX) (⟨z, .slice zA zn zc, .slice zB zm zk⟩ : EntX) hb My.out Mz.out
            clear hkk
            go_upto_region 10 with fail
            rw [← HV2.out, ← HA2.out]
            clear l0 l1 l2 l3 l4 hb2 HA2 HV2
            obtain ⟨b0, b1, b2, b3, b4, d0, d1, d2, d3, d4⟩ := HKS.out V2 (Below.refl _ _)
            go_upto_region 11 with (go_at_call 10; (with_reducible refine (K10.out _ BV2.out).mono ?_); rintro en w3 ⟨rfl, hb3⟩; have C3 := Lib.hid hb3; clear hb3)
            clear b0 b1 b2 b3 b4 d0 d1 d2 d3 d4
            have BV3 : Hid (Below WB.heap.size WB w3) := Lib.hid (BV2.out.trans (C3.out.mono BV2.out.size))
            have HKT : Hid (∀ w', Below w3.heap.size w3 w' → Below w3.heap.size w3 w' ∧ w'.cell? ⟨a1, 0, none⟩ = some (.int .i64 y.table) ∧ w'.cell? ⟨a1, 1, none⟩ = some (.slice yA yn yc) ∧ w'.cell? ⟨a1, 2, none⟩ = some (.int .i64 y.prio) ∧ w'.cell? ⟨a1, 3, none⟩ = some (.int .i64 y.action) ∧ w'.cell? ⟨a1, 4, none⟩ = some (.slice yB ym yk) ∧ w'.cell? ⟨a2, 0, none⟩ = some (.int .i64 z.table) ∧ w'.cell? ⟨a2, 1, none⟩ = some (.slice zA zn zc) ∧ w'.cell? ⟨a2, 2, none⟩ = some (.int .i64 z.prio) ∧ w'.cell? ⟨a2, 3, none⟩ = some (.int .i64 z.action) ∧ w'.cell? ⟨a2, 4, none⟩ = some (.slice zB zm zk)) := Lib.hid fun w' hb => ⟨hb, HKS.out w' (C3.out.trans (hb.mono C3.out.size))⟩
            have RR : Hid (∀ W : World, Below w3.heap.size w3 W → Calls Try.prog 11 #[.agg #[.int .i64 y.table, .slice yA yn yc, .int .i64 y.prio, .int .i64 y.action, .slice yB ym yk], .agg #[.int .i64 z.table, .slice zA zn zc, .int .i64 z.prio, .int .i64 z.action, .slice zB zm zk]] W (RetX (.int .i64 kk) W)) := Lib.hid fun W hb => by rw [HKK.out]; exact KR.out W (⟨y, .slice yA yn yc, .slice yB ym yk⟩ : EntX) (⟨z, .slice zA zn zc, .slice zB zm zk⟩ : EntX) (BV3.out.trans (hb.mono BV3.out.size)) My.out Mz.out
            have RB : Hid (∀ W : World, Below w3.heap.size w3 W → Calls Try.prog 10 #[.agg #[.int .i64 z.table, .slice zA zn zc, .int .i64 z.prio, .int .i64 z.action, .slice zB zm zk], .agg #[.int .i64 y.table, .slice yA yn yc, .int .i64 y.prio, .int .i64 y.action, .slice yB ym yk]] W (RetX (.int .i64 (-kk)) W)) := Lib.hid fun W hb => by rw [HKK.out, ← ANTI.out]; exact KC.out W (⟨z, .slice zA zn zc, .slice zB zm zk⟩ : EntX) (⟨y, .slice yA yn yc, .slice yB ym yk⟩ : EntX) (BV3.out.trans (hb.mono BV3.out.size)) Mz.out My.out
            obtain ⟨sb, hsb⟩ : ∃ sb : Bool, sb = decide (kk = 0) := ⟨_, rfl⟩
            have RS : Hid (∀ W : World, Below w3.heap.size w3 W → Calls Try.prog 12 #[.agg #[.int .i64 y.table, .slice yA yn yc, .int .i64 y.prio, .int .i64 y.action, .slice yB ym yk], .agg #[.int .i64 z.table, .slice zA zn zc, .int .i64 z.prio, .int .i64 z.action, .slice zB zm zk]] W (RetX (.bool sb) W)) := Lib.hid fun W hb => (KS.out W (⟨y, .slice yA yn yc, .slice yB ym yk⟩ : EntX) (⟨z, .slice zA zn zc, .slice zB zm zk⟩ : EntX) (BV3.out.trans (hb.mono BV3.out.size)) My.out Mz.out).mono fun en w' ⟨bb, h1, h2, h3⟩ => ⟨by
              rw [h1, hsb]
              congr 2
              rw [HKK.out]
              cases bb with
              | true => exact (decide_eq_true (ZER.out.2 (h2.1 rfl))).symm
              | false => exact (decide_eq_false (fun h => by have := h2.2 (ZER.out.1 h); cases this)).symm, h3⟩
            obtain ⟨sk, hsk⟩ : ∃ sk : Bool, sk = true ↔ (y.table = z.table ∧ y.prio = z.prio ∧ y.ms = z.ms) := by
              by_cases h : (y.table = z.table ∧ y.prio = z.prio ∧ y.ms = z.ms)
              · exact ⟨true, by simp [h]⟩
              · exact ⟨false, by simp [h]⟩
            have RK : Hid (∀ W : World, Below w3.heap.size w3 W → Calls Try.prog 13 #[.agg #[.int .i64 y.table, .slice yA yn yc, .int .i64 y.prio, .int .i64 y.action, .slice yB ym yk], .agg #[.int .i64 z.table, .slice zA zn zc, .int .i64 z.prio, .int .i64 z.action, .slice zB zm zk]] W (RetX (.bool sk) W)) := Lib.hid fun W hb => (KK.out W (⟨y, .slice yA yn yc, .slice yB ym yk⟩ : EntX) (⟨z, .slice zA zn zc, .slice zB zm zk⟩ : EntX) (BV3.out.trans (hb.mono BV3.out.size)) My.out Mz.out).mono fun en w' ⟨bb, h1, h2, h3⟩ => ⟨by rw [h1]; congr 2; exact Bool.eq_iff_iff.2 (h2.trans hsk.symm), h3⟩
            have RQ : Hid (∀ W : World, Below w3.heap.size w3 W → Calls Try.prog 14 #[.agg #[.int .i64 y.table, .slice yA yn yc, .int .i64 y.prio, .int .i64 y.action, .slice yB ym yk], .agg #[.int .i64 z.table, .slice zA zn zc, .int .i64 z.prio, .int .i64 z.action, .slice zB zm zk]] W (RetX (.bool sk) W)) := Lib.hid fun W hb => (KQ.out W (⟨y, .slice yA yn yc, .slice yB ym yk⟩ : EntX) (⟨z, .slice zA zn zc, .slice zB zm zk⟩ : EntX) (BV3.out.trans (hb.mono BV3.out.size)) My.out Mz.out).mono fun en w' ⟨bb, h1, h2, h3⟩ => ⟨by rw [h1]; congr 2; exact Bool.eq_iff_iff.2 (h2.trans hsk.symm), h3⟩
            have HNG : Hid ((kk = -1 ∧ sb = false) ∨ (kk = 0 ∧ sb = true) ∨ (kk = 1 ∧ sb = false)) := Lib.hid (by
              have h7 := RNG.out
              rw [← HKK.out] at h7
              rcases (show kk = -1 ∨ kk = 0 ∨ kk = 1 by omega) with h | h | h
              · exact .inl ⟨h, by rw [hsb, h]; rfl⟩
              · exact .inr (.inl ⟨h, by rw [hsb, h]; rfl⟩)
              · exact .inr (.inr ⟨h, by rw [hsb, h]; rfl⟩))
            clear hsk hsb
            go_cut [96] (fun v96 wx9 => v96 = .bool false ∧ Below w3.heap.size w3 wx9)
            case first =>
              clear HKK
              rcases HNG.out with ⟨rfl, rfl⟩ | ⟨rfl, rfl⟩ | ⟨rfl, rfl⟩
              all_goals
                cases sk
                all_goals
                  refine wp_region_noPanic ?_
                  refine wp_region_held_drew (S := fun w' => Below w3.heap.size w3 w' ∧ w'.cell? ⟨a1, 0, none⟩ = some (.int .i64 y.table) ∧ w'.cell? ⟨a1, 1, none⟩ = some (.slice yA yn yc) ∧ w'.cell? ⟨a1, 2, none⟩ = some (.int .i64 y.prio) ∧ w'.cell? ⟨a1, 3, none⟩ = some (.int .i64 y.action) ∧ w'.cell? ⟨a1, 4, none⟩ = some (.slice yB ym yk) ∧ w'.cell? ⟨a2, 0, none⟩ = some (.int .i64 z.table) ∧ w'.cell? ⟨a2, 1, none⟩ = some (.slice zA zn zc) ∧ w'.cell? ⟨a2, 2, none⟩ = some (.int .i64 z.prio) ∧ w'.cell? ⟨a2, 3, none⟩ = some (.int .i64 z.action) ∧ w'.cell? ⟨a2, 4, none⟩ = some (.slice zB zm zk)) (by kernel_rfl) (HKT.out _ (Below.drew (Below.refl _ _))) (fun hHeld => ?_)
                  refine wpAnyH_take (i := 0) (oi := ({ dst := some 67, op := Op.move (Operand.tmp 21), type := _, pos := "law.go:123", after := _, guard := none } : Oper)) (v := ?_) rfl (by kernel_rfl) (by kernel_rfl) (by kernel_rfl) (fun _ _ _ h => h) (Or.inl ⟨by rfl, ?_⟩) hHeld ?_
                  rotate_left
                  · (intro w1 hSw; (try dsimp only at hSw); go_simp; all_goals with_reducible rfl)
                  (try go_frame)
                  refine wpAnyH_take (i := 1) (oi := ({ dst := some 68, op := Op.load 26 (Operand.tmp 18), type := _, pos := "law.go:123", after := _, guard := none } : Oper)) (v := ?_) rfl (by kernel_rfl) (by kernel_rfl) (by kernel_rfl) (fun _ _ _ h => h) (Or.inl ⟨by rfl, ?_⟩) hHeld ?_
                  rotate_left
                  · (intro w1 hSw; (try dsimp only at hSw); go_simp; all_goals with_reducible rfl)
                  (try go_frame)
                  refine wpAnyH_take (i := 2) (oi := ({ dst := some 69, op := Op.load 26 (Operand.tmp 20), type := _, pos := "law.go:123", after := _, guard := none } : Oper)) (v := ?_) rfl (by kernel_rfl) (by kernel_rfl) (by kernel_rfl) (fun _ _ _ h => h) (Or.inl ⟨by rfl, ?_⟩) hHeld ?_
                  rotate_left
                  · (intro w1 hSw; (try dsimp only at hSw); go_simp; all_goals with_reducible rfl)
                  (try go_frame)
                  refine wpAnyH_ready (rs := [3]) (by kernel_rfl) (by simp) ?_
                  refine AllReadyH.cons (o := ({ dst := some 70, op := Op.call { callee := Callee.value (Operand.func 11), args := #[Operand.tmp 68, Operand.tmp 69], argTypes := _ }, type := _, pos := "law.go:123", after := _, guard := none } : Oper)) rfl (fun K hK => ?_) AllReadyH.nil
                  go_simp
                  go_wp2_with (go_at_call 11; (with_reducible refine (RR.out _ (And.left hHeld)).mono ?_); rintro en v9 ⟨rfl, hv9⟩)
                  refine hK.out _ _ ?_ (fun hHeld2 => ?_)
                  · exact HKT.out _ (below_call (And.left hHeld) (by assumption))
                  clear hK K hHeld
                  have hHeld := hHeld2
                  clear hHeld2
                  (try go_frame)
                  refine wpAnyH_take (i := 4) (oi := ({ dst := some 71, op := Op.binOp BinOp.neq 3 (Operand.tmp 67) (Operand.tmp 70) 3, type := _, pos := "law.go:123", after := _, guard := none } : Oper)) (v := ?_) rfl (by kernel_rfl) (by kernel_rfl) (by kernel_rfl) (fun _ _ _ h => h) (Or.inl ⟨by rfl, ?_⟩) hHeld ?_
                  rotate_left
                  · (intro w1 hSw; (try dsimp only at hSw); go_simp; all_goals with_reducible rfl)
                  (try go_frame)
                  refine wpAnyH_take (i := 5) (oi := ({ dst := some 72, op := Op.move (Operand.tmp 71), type := _, pos := "law.go:123", after := _, guard := none } : Oper)) (v := ?_) rfl (by kernel_rfl) (by kernel_rfl) (by kernel_rfl) (fun _ _ _ h => h) (Or.inl ⟨by rfl, ?_⟩) hHeld ?_
                  rotate_left
                  · (intro w1 hSw; (try dsimp only at hSw); go_simp; all_goals with_reducible rfl)
                  (try go_frame)
                  refine wpAnyH_take (i := 6) (oi := ({ dst := some 73, op := Op.load 26 (Operand.tmp 20), type := _, pos := "law.go:123", after := _, guard := some (5, false) } : Oper)) (v := ?_) rfl (by kernel_rfl) (by kernel_rfl) (by kernel_rfl) (fun _ _ _ h => h) (Or.inl ⟨by rfl, ?_⟩) hHeld ?_
                  rotate_left
                  · (intro w1 hSw; (try dsimp only at hSw); go_simp; all_goals with_reducible rfl)
                  (try go_frame)
                  refine wpAnyH_take (i := 7) (oi := ({ dst := some 74, op := Op.load 26 (Operand.tmp 18), type := _, pos := "law.go:123", after := _, guard := some (5, false) } : Oper)) (v := ?_) rfl (by kernel_rfl) (by kernel_rfl) (by kernel_rfl) (fun _ _ _ h => h) (Or.inl ⟨by rfl, ?_⟩) hHeld ?_
                  rotate_left
                  · (intro w1 hSw; (try dsimp only at hSw); go_simp; all_goals with_reducible rfl)
                  (try go_frame)
                  refine wpAnyH_take (i := 9) (oi := ({ dst := some 76, op := Op.move (Operand.tmp 21), type := _, pos := "law.go:123", after := _, guard := some (5, false) } : Oper)) (v := ?_) rfl (by kernel_rfl) (by kernel_rfl) (by kernel_rfl) (fun _ _ _ h => h) (Or.inl ⟨by rfl, ?_⟩) hHeld ?_
                  rotate_left
                  · (intro w1 hSw; (try dsimp only at hSw); go_simp; all_goals with_reducible rfl)
                  (try go_frame)
                  refine wpAnyH_take (i := 10) (oi := ({ dst := some 77, op := Op.unOp UnOp.neg 3 (Operand.tmp 76), type := _, pos := "law.go:123", after := _, guard := some (5, false) } : Oper)) (v := ?_) rfl (by kernel_rfl) (by kernel_rfl) (by kernel_rfl) (fun _ _ _ h => h) (Or.inl ⟨by rfl, ?_⟩) hHeld ?_
                  rotate_left
                  · (intro w1 hSw; (try dsimp only at hSw); go_simp; all_goals with_reducible rfl)
                  (try go_frame)
                  refine wpAnyH_ready (rs := [8]) (by kernel_rfl) (by simp) ?_
                  refine AllReadyH.cons (o := ({ dst := some 75, op := Op.call { callee := Callee.value (Operand.func 10), args := #[Operand.tmp 73, Operand.tmp 74], argTypes := _ }, type := _, pos := "law.go:123", after := _, guard := some (5, false) } : Oper)) rfl (fun K hK => ?_) AllReadyH.nil
                  rw [if_pos (by rfl)]
                  go_simp
                  go_wp2_with (go_at_call 10; (with_reducible refine (RB.out _ (And.left hHeld)).mono ?_); rintro en v9 ⟨rfl, hv9⟩)
                  refine hK.out _ _ ?_ (fun hHeld2 => ?_)
                  · exact HKT.out _ (below_call (And.left hHeld) (by assumption))
                  clear hK K hHeld
                  have hHeld := hHeld2
                  clear hHeld2
                  (try go_frame)
                  refine wpAnyH_take (i := 11) (oi := ({ dst := some 78, op := Op.binOp BinOp.neq 3 (Operand.tmp 75) (Operand.tmp 77) 3, type := _, pos := "law.go:123", after := _, guard := some (5, false) } : Oper)) (v := ?_) rfl (by kernel_rfl) (by kernel_rfl) (by kernel_rfl) (fun _ _ _ h => h) (Or.inl ⟨by rfl, ?_⟩) hHeld ?_
                  rotate_left
                  · (intro w1 hSw; (try dsimp only at hSw); go_simp; all_goals with_reducible rfl)
                  (try go_frame)
                  refine wpAnyH_take (i := 12) (oi := ({ dst := some 79, op := Op.pick (Operand.tmp 72) (Operand.const (Value.bool true)) (Operand.tmp 78), type := _, pos := "law.go:123", after := _, guard := none } : Oper)) (v := ?_) rfl (by kernel_rfl) (by kernel_rfl) (by kernel_rfl) (fun _ _ _ h => h) (Or.inl ⟨by rfl, ?_⟩) hHeld ?_
                  rotate_left
                  · (intro w1 hSw; (try dsimp only at hSw); go_simp; all_goals with_reducible rfl)
                  (try go_frame)
                  refine wpAnyH_take (i := 13) (oi := ({ dst := some 80, op := Op.move (Operand.tmp 79), type := _, pos := "law.go:123", after := _, guard := none } : Oper)) (v := ?_) rfl (by kernel_rfl) (by kernel_rfl) (by kernel_rfl) (fun _ _ _ h => h) (Or.inl ⟨by rfl, ?_⟩) hHeld ?_
                  rotate_left
                  · (intro w1 hSw; (try dsimp only at hSw); go_simp; all_goals with_reducible rfl)
                  (try go_frame)
                  refine wpAnyH_take (i := 14) (oi := ({ dst := some 81, op := Op.load 26 (Operand.tmp 18), type := _, pos := "law.go:123", after := _, guard := some (13, false) } : Oper)) (v := ?_) rfl (by kernel_rfl) (by kernel_rfl) (by kernel_rfl) (fun _ _ _ h => h) (Or.inl ⟨by rfl, ?_⟩) hHeld ?_
                  rotate_left
                  · (intro w1 hSw; (try dsimp only at hSw); go_simp; all_goals with_reducible rfl)
                  (try go_frame)
                  refine wpAnyH_take (i := 15) (oi := ({ dst := some 82, op := Op.load 26 (Operand.tmp 20), type := _, pos := "law.go:123", after := _, guard := some (13, false) } : Oper)) (v := ?_) rfl (by kernel_rfl) (by kernel_rfl) (by kernel_rfl) (fun _ _ _ h => h) (Or.inl ⟨by rfl, ?_⟩) hHeld ?_
                  rotate_left
                  · (intro w1 hSw; (try dsimp only at hSw); go_simp; all_goals with_reducible rfl)
                  (try go_frame)
                  refine wpAnyH_take (i := 17) (oi := ({ dst := some 84, op := Op.move (Operand.tmp 21), type := _, pos := "law.go:123", after := _, guard := some (13, false) } : Oper)) (v := ?_) rfl (by kernel_rfl) (by kernel_rfl) (by kernel_rfl) (fun _ _ _ h => h) (Or.inl ⟨by rfl, ?_⟩) hHeld ?_
                  rotate_left
                  · (intro w1 hSw; (try dsimp only at hSw); go_simp; all_goals with_reducible rfl)
                  (try go_frame)
                  refine wpAnyH_take (i := 18) (oi := ({ dst := some 85, op := Op.binOp BinOp.eql 3 (Operand.tmp 84) (Operand.const (Value.int IntKind.i64 0)) 3, type := _, pos := "law.go:123", after := _, guard := some (13, false) } : Oper)) (v := ?_) rfl (by kernel_rfl) (by kernel_rfl) (by kernel_rfl) (fun _ _ _ h => h) (Or.inl ⟨by rfl, ?_⟩) hHeld ?_
                  rotate_left
                  · (intro w1 hSw; (try dsimp only at hSw); go_simp; all_goals with_reducible rfl)
                  (try go_frame)
                  refine wpAnyH_ready (rs := [16]) (by kernel_rfl) (by simp) ?_
                  refine AllReadyH.cons (o := ({ dst := some 83, op := Op.call { callee := Callee.value (Operand.func 12), args := #[Operand.tmp 81, Operand.tmp 82], argTypes := _ }, type := _, pos := "law.go:123", after := _, guard := some (13, false) } : Oper)) rfl (fun K hK => ?_) AllReadyH.nil
                  rw [if_pos (by rfl)]
                  go_simp
                  go_wp2_with (go_at_call 12; (with_reducible refine (RS.out _ (And.left hHeld)).mono ?_); rintro en v9 ⟨rfl, hv9⟩)
                  refine hK.out _ _ ?_ (fun hHeld2 => ?_)
                  · exact HKT.out _ (below_call (And.left hHeld) (by assumption))
                  clear hK K hHeld
                  have hHeld := hHeld2
                  clear hHeld2
                  (try go_frame)
                  refine wpAnyH_take (i := 19) (oi := ({ dst := some 86, op := Op.binOp BinOp.neq 4 (Operand.tmp 83) (Operand.tmp 85) 4, type := _, pos := "law.go:123", after := _, guard := some (13, false) } : Oper)) (v := ?_) rfl (by kernel_rfl) (by kernel_rfl) (by kernel_rfl) (fun _ _ _ h => h) (Or.inl ⟨by rfl, ?_⟩) hHeld ?_
                  rotate_left
                  · (intro w1 hSw; (try dsimp only at hSw); go_simp; all_goals with_reducible rfl)
                  (try go_frame)
                  refine wpAnyH_take (i := 20) (oi := ({ dst := some 87, op := Op.pick (Operand.tmp 80) (Operand.const (Value.bool true)) (Operand.tmp 86), type := _, pos := "law.go:123", after := _, guard := none } : Oper)) (v := ?_) rfl (by kernel_rfl) (by kernel_rfl) (by kernel_rfl) (fun _ _ _ h => h) (Or.inl ⟨by rfl, ?_⟩) hHeld ?_
                  rotate_left
                  · (intro w1 hSw; (try dsimp only at hSw); go_simp; all_goals with_reducible rfl)
                  (try go_frame)
                  refine wpAnyH_take (i := 21) (oi := ({ dst := some 88, op := Op.move (Operand.tmp 87), type := _, pos := "law.go:123", after := _, guard := none } : Oper)) (v := ?_) rfl (by kernel_rfl) (by kernel_rfl) (by kernel_rfl) (fun _ _ _ h => h) (Or.inl ⟨by rfl, ?_⟩) hHeld ?_
                  rotate_left
                  · (intro w1 hSw; (try dsimp only at hSw); go_simp; all_goals with_reducible rfl)
                  (try go_frame)
                  refine wpAnyH_take (i := 22) (oi := ({ dst := some 89, op := Op.load 26 (Operand.tmp 18), type := _, pos := "law.go:123", after := _, guard := some (21, false) } : Oper)) (v := ?_) rfl (by kernel_rfl) (by kernel_rfl) (by kernel_rfl) (fun _ _ _ h => h) (Or.inl ⟨by rfl, ?_⟩) hHeld ?_
                  rotate_left
                  · (intro w1 hSw; (try dsimp only at hSw); go_simp; all_goals with_reducible rfl)
                  (try go_frame)
                  refine wpAnyH_take (i := 23) (oi := ({ dst := some 90, op := Op.load 26 (Operand.tmp 20), type := _, pos := "law.go:123", after := _, guard := some (21, false) } : Oper)) (v := ?_) rfl (by kernel_rfl) (by kernel_rfl) (by kernel_rfl) (fun _ _ _ h => h) (Or.inl ⟨by rfl, ?_⟩) hHeld ?_
                  rotate_left
                  · (intro w1 hSw; (try dsimp only at hSw); go_simp; all_goals with_reducible rfl)
                  (try go_frame)
                  refine wpAnyH_take (i := 25) (oi := ({ dst := some 92, op := Op.load 26 (Operand.tmp 18), type := _, pos := "law.go:123", after := _, guard := some (21, false) } : Oper)) (v := ?_) rfl (by kernel_rfl) (by kernel_rfl) (by kernel_rfl) (fun _ _ _ h => h) (Or.inl ⟨by rfl, ?_⟩) hHeld ?_
                  rotate_left
                  · (intro w1 hSw; (try dsimp only at hSw); go_simp; all_goals with_reducible rfl)
                  (try go_frame)
                  refine wpAnyH_take (i := 26) (oi := ({ dst := some 93, op := Op.load 26 (Operand.tmp 20), type := _, pos := "law.go:123", after := _, guard := some (21, false) } : Oper)) (v := ?_) rfl (by kernel_rfl) (by kernel_rfl) (by kernel_rfl) (fun _ _ _ h => h) (Or.inl ⟨by rfl, ?_⟩) hHeld ?_
                  rotate_left
                  · (intro w1 hSw; (try dsimp only at hSw); go_simp; all_goals with_reducible rfl)
                  (try go_frame)
                  refine wpAnyH_ready (rs := [24]) (by kernel_rfl) (by simp) ?_
                  refine AllReadyH.cons (o := ({ dst := some 91, op := Op.call { callee := Callee.value (Operand.func 13), args := #[Operand.tmp 89, Operand.tmp 90], argTypes := _ }, type := _, pos := "law.go:123", after := _, guard := some (21, false) } : Oper)) rfl (fun K hK => ?_) AllReadyH.nil
                  rw [if_pos (by rfl)]
                  go_simp
                  go_wp2_with (go_at_call 13; (with_reducible refine (RK.out _ (And.left hHeld)).mono ?_); rintro en v9 ⟨rfl, hv9⟩)
                  refine hK.out _ _ ?_ (fun hHeld2 => ?_)
                  · exact HKT.out _ (below_call (And.left hHeld) (by assumption))
                  clear hK K hHeld
                  have hHeld := hHeld2
                  clear hHeld2
                  (try go_frame)
                  refine wpAnyH_ready (rs := [27]) (by kernel_rfl) (by simp) ?_
                  refine AllReadyH.cons (o := ({ dst := some 94, op := Op.call { callee := Callee.value (Operand.func 14), args := #[Operand.tmp 92, Operand.tmp 93], argTypes := _ }, type := _, pos := "law.go:123", after := _, guard := some (21, false) } : Oper)) rfl (fun K hK => ?_) AllReadyH.nil
                  rw [if_pos (by rfl)]
                  go_simp
                  go_wp2_with (go_at_call 14; (with_reducible refine (RQ.out _ (And.left hHeld)).mono ?_); rintro en v9 ⟨rfl, hv9⟩)
                  refine hK.out _ _ ?_ (fun hHeld2 => ?_)
                  · exact HKT.out _ (below_call (And.left hHeld) (by assumption))
                  clear hK K hHeld
                  have hHeld := hHeld2
                  clear hHeld2
                  (try go_frame)
                  refine wpAnyH_take (i := 28) (oi := ({ dst := some 95, op := Op.binOp BinOp.neq 4 (Operand.tmp 91) (Operand.tmp 94) 4, type := _, pos := "law.go:123", after := _, guard := some (21, false) } : Oper)) (v := ?_) rfl (by kernel_rfl) (by kernel_rfl) (by kernel_rfl) (fun _ _ _ h => h) (Or.inl ⟨by rfl, ?_⟩) hHeld ?_
                  rotate_left
                  · (intro w1 hSw; (try dsimp only at hSw); go_simp; all_goals with_reducible rfl)
                  (try go_frame)
                  refine wpAnyH_take (i := 29) (oi := ({ dst := some 96, op := Op.pick (Operand.tmp 88) (Operand.const (Value.bool true)) (Operand.tmp 95), type := _, pos := "law.go:123", after := _, guard := none } : Oper)) (v := ?_) rfl (by kernel_rfl) (by kernel_rfl) (by kernel_rfl) (fun _ _ _ h => h) (Or.inl ⟨by rfl, ?_⟩) hHeld ?_
                  rotate_left
                  · (intro w1 hSw; (try dsimp only at hSw); go_simp; all_goals with_reducible rfl)
                  (try go_frame)
                  refine wpAnyH_done (by kernel_rfl) ?_ _
                  refine NoPanic.normal ?_
                  (try go_frame)
                  go_wp2_with fail
                  go_meet
                  exact ⟨rfl, And.left hHeld⟩
            case rest =>
              obtain ⟨wx3, hwx3⟩ : ∃ W, W = wc := ⟨_, rfl⟩
              subst hwx3
              obtain ⟨rfl, hb3⟩ := hcut
              have HB4 : Hid (Below V1.heap.size V1 wx3) := Lib.hid (HB3.out.trans ((C3.out.trans (hb3.mono C3.out.size)).mono HB3.out.size))
              have BV4 : Hid (Below WB.heap.size WB wx3) := Lib.hid (BV3.out.trans (hb3.mono BV3.out.size))
              have HKX : Hid (∀ w', Below wx3.heap.size wx3 w' → w'.cell? ⟨a1, 0, none⟩ = some (.int .i64 y.table) ∧ w'.cell? ⟨a1, 1, none⟩ = some (.slice yA yn yc) ∧ w'.cell? ⟨a1, 2, none⟩ = some (.int .i64 y.prio) ∧ w'.cell? ⟨a1, 3, none⟩ = some (.int .i64 y.action) ∧ w'.cell? ⟨a1, 4, none⟩ = some (.slice yB ym yk) ∧ w'.cell? ⟨a2, 0, none⟩ = some (.int .i64 z.table) ∧ w'.cell? ⟨a2, 1, none⟩ = some (.slice zA zn zc) ∧ w'.cell? ⟨a2, 2, none⟩ = some (.int .i64 z.prio) ∧ w'.cell? ⟨a2, 3, none⟩ = some (.int .i64 z.action) ∧ w'.cell? ⟨a2, 4, none⟩ = some (.slice zB zm zk)) := Lib.hid fun w' hb => HKS.out w' ((C3.out.trans (hb3.mono C3.out.size)).trans (hb.mono (Nat.le_trans C3.out.size hb3.size)))
              have KZ : Hid (∀ (W : World) (z2 : EntX), Below WB.heap.size WB W → z2 ∈ es → Calls Try.prog 10 #[.agg #[.int .i64 z.table, .slice zA zn zc, .int .i64 z.prio, .int .i64 z.action, .slice zB zm zk], .agg #[.int .i64 z2.d.table, z2.v, .int .i64 z2.d.prio, .int .i64 z2.d.action, z2.u]] W (RetX (.int .i64 (entI z z2.d)) W)) := Lib.hid fun W z2 hb h2 => KC.out W (⟨z, .slice zA zn zc, .slice zB zm zk⟩ : EntX) z2 hb Mz.out h2
              have KY : Hid (∀ (W : World) (z2 : EntX), Below WB.heap.size WB W → z2 ∈ es → Calls Try.prog 10 #[.agg #[.int .i64 y.table, .slice yA yn yc, .int .i64 y.prio, .int .i64 y.action, .slice yB ym yk], .agg #[.int .i64 z2.d.table, z2.v, .int .i64 z2.d.prio, .int .i64 z2.d.action, z2.u]] W (RetX (.int .i64 (entI y z2.d)) W)) := Lib.hid fun W z2 hb h2 => KC.out W (⟨y, .slice yA yn yc, .slice yB ym yk⟩ : EntX) z2 hb My.out h2
              have HLQ := Lib.hid hlt
              clear hb3 hlt j1 j2 j3
              go_wp2_with fail
              go_loopw [99] (fun i W => ∃ s : Nat, s ≤ nn ∧ i = .int .i64 (s : Int) ∧ Below wx3.heap.size wx3 W) (fun i _ => nn - (intOf i).toNat)
              case atStart => exact ⟨0, Nat.zero_le _, rfl, Below.refl _ _⟩
              case round =>
                obtain ⟨s, hs, rfl, hb⟩ := hrel
                have HB5 := Lib.hid hb
                have HC5 : Hid (Below WB.heap.size WB wr) := Lib.hid (BV4.out.trans (hb.mono BV4.out.size))
                clear hb
                by_cases hlt : s < nn
                · have j1 : (s : Int) < (nn : Int) := by omega
                  have j2 : (s : Int) < (c : Int) := by omega
                  have j3 : (0 : Int) ≤ (s : Int) := by omega
                  have hli := HL.out.below HC5.out
                  obtain ⟨o, oA, on, oc, oB, om, ok, ho⟩ := hli.elem s (by rw [HES.out]; exact hlt)
                  have Mo := Lib.hid (List.mem_of_getElem? ho)
                  have l0 : wr.cell? ⟨g, s * 5, none⟩ = some (.int .i64 o.table) := hli.cells s _ 0 _ ho rfl
                  have l1 : wr.cell? ⟨g, s * 5 + 1, none⟩ = some (.slice oA on oc) := hli.cells s _ 1 _ ho rfl
                  have l2 : wr.cell? ⟨g, s * 5 + 2, none⟩ = some (.int .i64 o.prio) := hli.cells s _ 2 _ ho rfl
                  have l3 : wr.cell? ⟨g, s * 5 + 3, none⟩ = some (.int .i64 o.action) := hli.cells s _ 3 _ ho rfl
                  have l4 : wr.cell? ⟨g, s * 5 + 4, none⟩ = some (.slice oB om ok) := hli.cells s _ 4 _ ho rfl
                  clear hli ho
                  obtain ⟨a3, ha⟩ : ∃ zz, zz = wr.heap.size := ⟨_, rfl⟩
                  obtain ⟨V3, hV⟩ : ∃ zz, zz = wr.alloc (.cells #[.int .i64 o.table, .slice oA on oc, .int .i64 o.prio, .int .i64 o.action, .slice oB om ok] 26) := ⟨_, rfl⟩
                  have hb3 : Below wr.heap.size wr V3 := by rw [hV]; exact (Below.refl _ _).alloc (Nat.le_refl _) _
                  have X3 : Hid (V3.heap[a3]? = some (.cells #[.int .i64 o.table, .slice oA on oc, .int .i64 o.prio, .int .i64 o.action, .slice oB om ok] 26 (0, 0))) := Lib.hid (by rw [ha, hV]; exact heap_alloc_new _ _)
                  have HA3 := Lib.hid ha
                  have HV3 := Lib.hid hV
                  clear ha hV
                  have BV6 : Hid (Below WB.heap.size WB V3) := Lib.hid (HC5.out.trans (hb3.mono HC5.out.size))
                  have HB6 : Hid (Below wx3.heap.size wx3 V3) := Lib.hid (HB5.out.trans (hb3.mono HB5.out.size))
                  obtain ⟨b0, b1, b2, b3, b4, d0, d1, d2, d3, d4⟩ := HKX.out V3 HB6.out
                  have g0 : V3.cell? ⟨a3, 0, none⟩ = some (.int .i64 o.table) := blk_cell X3.out 0 _ rfl
                  have g1 : V3.cell? ⟨a3, 1, none⟩ = some (.slice oA on oc) := blk_cell X3.out 1 _ rfl
                  have g2 : V3.cell? ⟨a3, 2, none⟩ = some (.int .i64 o.prio) := blk_cell X3.out 2 _ rfl
                  have g3 : V3.cell? ⟨a3, 3, none⟩ = some (.int .i64 o.action) := blk_cell X3.out 3 _ rfl
                  have g4 : V3.cell? ⟨a3, 4, none⟩ = some (.slice oB om ok) := blk_cell X3.out 4 _ rfl
                  have TRN := Lib.hid (pre_ent.tr y z o)
                  obtain ⟨k2, hk2⟩ : ∃ k2, k2 = entI z o := ⟨_, rfl⟩
                  obtain ⟨k3, hk3⟩ : ∃ k3, k3 = entI y o := ⟨_, rfl⟩
                  have KZ2 : Hid (∀ W : World, Below WB.heap.size WB W → Calls Try.prog 10 #[.agg #[.int .i64 z.table, .slice zA zn zc, .int .i64 z.prio, .int .i64 z.action, .slice zB zm zk], .agg #[.int .i64 o.table, .slice oA on oc, .int .i64 o.prio, .int .i64 o.action, .slice oB om ok]] W (RetX (.int .i64 k2) W)) := Lib.hid fun W hb => by rw [hk2]; exact KZ.out W (⟨o, .slice oA on oc, .slice oB om ok⟩ : EntX) hb Mo.out
                  have KY2 : Hid (∀ W : World, Below WB.heap.size WB W → Calls Try.prog 10 #[.agg #[.int .i64 y.table, .slice yA yn yc, .int .i64 y.prio, .int .i64 y.action, .slice yB ym yk], .agg #[.int .i64 o.table, .slice oA on oc, .int .i64 o.prio, .int .i64 o.action, .slice oB om ok]] W (RetX (.int .i64 k3) W)) := Lib.hid fun W hb => by rw [hk3]; exact KY.out W (⟨o, .slice oA on oc, .slice oB om ok⟩ : EntX) hb Mo.out
                  have HT3 : Hid (kk ≤ 0 → k2 ≤ 0 → ¬ 0 < k3) := Lib.hid fun h1 h2 => by
                    have := TRN.out (by rw [← HKK.out]; exact h1) (by rw [← hk2]; exact h2)
                    rw [hk3]; omega
                  clear hk2 hk3
                  go_upto_region 16 with fail
                  rw [← HV3.out, ← HA3.out]
                  clear l0 l1 l2 l3 l4 hb3 HA3 HV3
                  by_cases h1 : kk ≤ 0
                  · have dh1 : decide (kk ≤ 0) = true := decide_eq_true h1
                    by_cases h2 : k2 ≤ 0
                    · have dh2 : decide (k2 ≤ 0) = true := decide_eq_true h2
                      have h3 := HT3.out h1 h2
                      have dh3 : decide (0 < k3) = false := decide_eq_false h3
                      clear HT3 h1 h2 h3
                      go_wp2_with (first | (go_at_call 10; (with_reducible refine (KZ2.out _ BV6.out).mono ?_); rintro en w8 ⟨rfl, hb8⟩; have BV8 := Lib.hid (BV6.out.trans (hb8.mono BV6.out.size)); have HB8 := Lib.hid (HB6.out.trans (hb8.mono HB6.out.size)); have X8 := (hb8.block _ (Array.getElem?_eq_some_iff.1 X3.out).1).trans X3.out; obtain ⟨b0, b1, b2, b3, b4, d0, d1, d2, d3, d4⟩ := HKX.out w8 HB8.out; have g0 : w8.cell? ⟨a3, 0, none⟩ = some (.int .i64 o.table) := blk_cell X8 0 _ rfl; have g1 : w8.cell? ⟨a3, 1, none⟩ = some (.slice oA on oc) := blk_cell X8 1 _ rfl; have g2 : w8.cell? ⟨a3, 2, none⟩ = some (.int .i64 o.prio) := blk_cell X8 2 _ rfl; have g3 : w8.cell? ⟨a3, 3, none⟩ = some (.int .i64 o.action) := blk_cell X8 3 _ rfl; have g4 : w8.cell? ⟨a3, 4, none⟩ = some (.slice oB om ok) := blk_cell X8 4 _ rfl; clear hb8 X8) | (go_at_call 10; (with_reducible refine (KY2.out _ BV8.out).mono ?_); rintro en w10 ⟨rfl, hb10⟩; have HB10 := Lib.hid (HB8.out.trans (hb10.mono HB8.out.size)); clear hb10))
                      go_roundw
                      case rel => exact ⟨s + 1, by omega, by simp, HB10.out⟩
                      case measure => (first | (simp; omega) | (simp [intOf]; omega) | omega)
                    · have dh2 : decide (k2 ≤ 0) = false := decide_eq_false h2
                      clear HT3 h1 h2
                      go_wp2_with (go_at_call 10; (with_reducible refine (KZ2.out _ BV6.out).mono ?_); rintro en w8 ⟨rfl, hb8⟩; have BV8 := Lib.hid (BV6.out.trans (hb8.mono BV6.out.size)); have HB8 := Lib.hid (HB6.out.trans (hb8.mono HB6.out.size)); have X8 := (hb8.block _ (Array.getElem?_eq_some_iff.1 X3.out).1).trans X3.out; obtain ⟨b0, b1, b2, b3, b4, d0, d1, d2, d3, d4⟩ := HKX.out w8 HB8.out; have g0 : w8.cell? ⟨a3, 0, none⟩ = some (.int .i64 o.table) := blk_cell X8 0 _ rfl; have g1 : w8.cell? ⟨a3, 1, none⟩ = some (.slice oA on oc) := blk_cell X8 1 _ rfl; have g2 : w8.cell? ⟨a3, 2, none⟩ = some (.int .i64 o.prio) := blk_cell X8 2 _ rfl; have g3 : w8.cell? ⟨a3, 3, none⟩ = some (.int .i64 o.action) := blk_cell X8 3 _ rfl; have g4 : w8.cell? ⟨a3, 4, none⟩ = some (.slice oB om ok) := blk_cell X8 4 _ rfl; clear hb8 X8)
                      go_roundw
                      case rel => exact ⟨s + 1, by omega, by simp, HB8.out⟩
                      case measure => (first | (simp; omega) | (simp [intOf]; omega) | omega)
                  · have dh1 : decide (kk ≤ 0) = false := decide_eq_false h1
                    clear HT3 h1
                    go_wp2_with fail
                    go_roundw
                    case rel => exact ⟨s + 1, by omega, by simp, HB6.out⟩
                    case measure => (first | (simp; omega) | (simp [intOf]; omega) | omega)
                · obtain rfl : s = nn := by omega
                  have j1 : ¬ (s : Int) < (s : Int) := by omega
                  have hlq := HLQ.out
                  have hb9 : Below V1.heap.size V1 wr := HB4.out.trans (HB5.out.mono HB4.out.size)
                  go_wp2_with fail
                  go_roundw
                  case rel => exact ⟨q + 1, by omega, by simp, hb9⟩
                  case measure => (first | (simp; omega) | (simp [intOf]; omega) | omega)
          · obtain rfl : q = nn := by omega
            have j1 : ¬ (q : Int) < (q : Int) := by omega
            have hlk := HLK.out
            go_wp2_with fail
            go_roundw
            case rel => exact ⟨k + 1, by omega, by simp, HC2.out⟩
            case measure => (first | (simp; omega) | (simp [intOf]; omega) | omega)
      · obtain rfl : k = nn := by omega
        have j1 : ¬ (k : Int) < (k : Int) := by omega
        have KG : Hid (∀ W, Calls Try.prog 15 #[] W (RetX (.bool true) W)) := Lib.hid g_begun
        go_wp2_with (go_at_call 15; (with_reducible refine (KG.out _).mono ?_); rintro en w9 ⟨rfl, hb9⟩; have HB9 := Lib.hid hb9; clear hb9)
        go_ret
        exact ⟨rfl, HBW.out.trans ((HB1.out.trans (HB9.out.mono HB1.out.size)).mono HBW.out.size)⟩

end Go.Proofs.Ythldelnibgdnaaa
