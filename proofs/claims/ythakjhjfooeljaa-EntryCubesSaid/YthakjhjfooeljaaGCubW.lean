/- Contracts, joined: GCubP, GCubW. -/
import Derived.Test.YthakjhjfooeljaaGBg
import Derived.Test.YthakjhjfooeljaaGMt
import Derived.Test.YthakjhjfooeljaaCmp
import Derived.Deep.CutBlock
namespace Go.Proofs.Ythakjhjfooeljaa
/- Points in which bits are exchanged that no match fixes. -/
section
open Go.RowKit

theorem ones_bit (k : Int) (i : Nat) : (ones k).testBit i = decide (i < cl k) := by
  unfold ones
  rw [Nat.testBit_two_pow_sub_one]
theorem lead_bit (n : Nat) (hn : n ≤ 32) (i : Nat) : (lead 32 (n : Int)).testBit i = (decide (i < 32) ^^ decide (i < 32 - n)) := by
  unfold lead
  rw [Nat.testBit_xor, ones_bit, ones_bit]
  have h1 : cl (min (max 32 0) 128) = 32 := by decide
  have h2 : cl (min (max 32 0) 128 - min (max (n : Int) 0) (min (max 32 0) 128)) = 32 - n := by unfold cl; omega
  rw [h1, h2]
theorem lpm_free (n : Nat) (hn : n ≤ 32) (p v : Nat) : (p ^^^ (v &&& ones (32 - (n : Int)))) &&& lead 32 n = p &&& lead 32 n := by
  apply Nat.eq_of_testBit_eq
  intro i
  have h2 : cl (32 - (n : Int)) = 32 - n := by unfold cl; omega
  rw [Nat.testBit_and, Nat.testBit_and, Nat.testBit_xor, Nat.testBit_and, ones_bit, lead_bit n hn, h2]
  by_cases h : i < 32 - n
  · have : i < 32 := by omega
    simp [h, this]
  · simp [h]
theorem ternary_free (p v m : Nat) : (p ^^^ (v &&& (ones 128 &&& compl m))) &&& m = p &&& m := by
  apply Nat.eq_of_testBit_eq
  intro i
  rw [Nat.testBit_and, Nat.testBit_and, Nat.testBit_xor, Nat.testBit_and, Nat.testBit_and, testBit_compl]
  cases m.testBit i <;> simp
theorem cov_pres {m : MatchD} {kd : Int} {b : Int} {v : Nat} (h : m.pres = false) (hk : kd = 1 ∨ kd = 2 ∨ kd = 3 ∨ kd = 4) : covM m kd b v := by
  rcases hk with rfl | rfl | rfl | rfl
  · exact (cov1 _ _ _).2 fun e => by rw [h] at e; cases e
  · exact (cov2 _ _ _).2 fun e => by rw [h] at e; cases e
  · exact (cov3 _ _ _).2 fun e => by rw [h] at e; cases e
  · exact (cov4 _ _ _).2 fun e => by rw [h] at e; cases e
theorem cube_lpm (m : MatchD) (n : Nat) (hn : n ≤ 32) (he : m.pre = (n : Int)) (p v : Nat) : covM m 2 32 p ↔ covM m 2 32 (p ^^^ (v &&& ones (32 - m.pre))) := by
  rw [cov2, cov2, he, lpm_free n hn]
theorem cube_ternary (m : MatchD) (b : Int) (p v : Nat) : covM m 3 b p ↔ covM m 3 b (p ^^^ (v &&& (ones 128 &&& compl m.mask))) := by
  rw [cov3, cov3, ternary_free]
theorem tab_self {xs : List TableD} (h : TablesOk xs) (r : Nat) (t : TableD) (ht : xs[r]? = some t) : tblAt xs t.id = some t := by
  obtain ⟨q, s1, s2, s3, s4, b2, b3, b4, f, _, _, _, _, _, _, rfl⟩ := h
  match r, ht with
  | 0, ht => simp at ht; subst ht; rfl
  | 1, ht => simp at ht; subst ht; rfl
  | 2, ht => simp at ht; subst ht; rfl
  | 3, ht => simp at ht; subst ht; rfl
  | (r + 4), ht => simp at ht
theorem tab_len {xs : List TableD} (h : TablesOk xs) {r : Nat} {t : TableD} (ht : xs[r]? = some t) : t.keys.length ≤ 4 := (tables_keys h).2.2 t (List.mem_of_getElem? ht)
theorem mat_iff {fs : List FieldD} {ts : List TableD} {e : EntryD} {t : TableD} (h : tblAt ts e.table = some t) (hl : e.ms.length = t.keys.length) (h4 : t.keys.length ≤ 4) (p : Nat → Nat) :
    matE fs ts e p ↔ ∀ (i : Nat) (k : KeyD) (m : MatchD), t.keys[i]? = some k → e.ms[i]? = some m → covM m k.kind (fbits fs k.field) (p i) :=
  ⟨fun ⟨t', ht, _, _, h2⟩ => by rw [h] at ht; injection ht with ht; subst ht; exact h2, fun h2 => ⟨t, h, hl, h4, h2⟩⟩
def ptc (x : Nat → Nat) : List Value := [.int .u64 (hi (x 0)), .int .u64 (lo (x 0)), .int .u64 (hi (x 1)), .int .u64 (lo (x 1)), .int .u64 (hi (x 2)), .int .u64 (lo (x 2)), .int .u64 (hi (x 3)), .int .u64 (lo (x 3))]
theorem ptc_at (x : Nat → Nat) (q : Nat) (hq : q < 4) : (ptc x)[q * 2]? = some (.int .u64 (hi (x q))) ∧ (ptc x)[q * 2 + 1]? = some (.int .u64 (lo (x q))) := by
  match q, hq with
  | 0, _ => exact ⟨rfl, rfl⟩
  | 1, _ => exact ⟨rfl, rfl⟩
  | 2, _ => exact ⟨rfl, rfl⟩
  | 3, _ => exact ⟨rfl, rfl⟩
theorem ptc_set (x : Nat → Nat) (q v : Nat) (hq : q < 4) : ((ptc x).toArray.setIfInBounds (q * 2) (.int .u64 (hi v))).setIfInBounds (q * 2 + 1) (.int .u64 (lo v)) = (ptc fun i => if i = q then v else x i).toArray := by
  match q, hq with
  | 0, _ => rfl
  | 1, _ => rfl
  | 2, _ => rfl
  | 3, _ => rfl
theorem ptc_atA (x : Nat → Nat) (q : Nat) (hq : q < 4) : (ptc x).toArray[q * 2]? = some (.int .u64 (hi (x q))) ∧ (ptc x).toArray[q * 2 + 1]? = some (.int .u64 (lo (x q))) := by
  rw [List.getElem?_toArray, List.getElem?_toArray]
  exact ptc_at x q hq
theorem pt4_of (x : Nat → Nat) (i : Nat) (hi : i < 4) : pt4 (x 0) (x 1) (x 2) (x 3) i = x i := by
  match i, hi with
  | 0, _ => rfl
  | 1, _ => rfl
  | 2, _ => rfl
  | 3, _ => rfl
theorem pt4_lt (x : Nat → Nat) (h : ∀ i, x i < 2 ^ 128) (i : Nat) : pt4 (x 0) (x 1) (x 2) (x 3) i < 2 ^ 128 := by
  match i with
  | 0 => exact h 0
  | 1 => exact h 1
  | 2 => exact h 2
  | 3 => exact h 3
  | (i + 4) => show (0 : Nat) < _; decide
theorem cs_pointH (w : World) (K D p0 : Nat) (l : List Nat) (hco : CoAt K D l p0 w) : Calls Try.prog 15 #[.pointer (some ⟨K, 0, none⟩)] w fun en w' => ∃ x : Nat → Nat, en = .returned (.agg #[.int .u64 (hi (x 0)), .int .u64 (lo (x 0)), .int .u64 (hi (x 1)), .int .u64 (lo (x 1)), .int .u64 (hi (x 2)), .int .u64 (lo (x 2)), .int .u64 (hi (x 3)), .int .u64 (lo (x 3))]) ∧ (∀ i, x i < 2 ^ 128) ∧ w.grownBy w' (some K) ∧ ∃ p, CoAt K D l p w' := by
  refine (cs_point w K D p0 l hco).mono ?_
  rintro en w' ⟨x, rfl, hx, hg, hc⟩
  refine ⟨x, ?_, fun i => Nat.lt_trans (hx i) (by decide), hg, hc⟩
  rw [hi_small (hx 0), hi_small (hx 1), hi_small (hx 2), hi_small (hx 3), lo_small (hx 0), lo_small (hx 1), lo_small (hx 2), lo_small (hx 3)]
theorem modI_nat (x : Int) (n : Nat) (h1 : 1 ≤ n) : ∃ r : Nat, r < n ∧ modI x n = (r : Int) := by
  obtain ⟨a, b⟩ := modI_b x n h1
  exact ⟨(modI x n).toNat, by omega, by omega⟩
end
/- EntryCubes: its walk. -/
section
open Go.RowKit

/-- The loop over the keys: the point's bits are exchanged up to key q. -/
structure CubI (fs : List FieldD) (ks : List KeyD) (ms : List MatchD) (y : Nat → Nat) (Qb : Nat) (W0 : World) (q : Nat) (W : World) : Prop where
  below : Below Qb W0 W
  size : W0.heap.size ≤ W.heap.size
  ex : ∃ z : Nat → Nat, W.heap[Qb]? = some (.cells (ptc z).toArray 29 (0, 0)) ∧ (∀ i, z i < 2 ^ 128) ∧ (∀ i, q ≤ i → z i = y i) ∧ ∀ (i : Nat) (k : KeyD) (m : MatchD), i < q → ks[i]? = some k → ms[i]? = some m → (covM m k.kind (fbits fs k.field) (y i) ↔ covM m k.kind (fbits fs k.field) (z i))
set_option maxRecDepth 100000 in
set_option maxHeartbeats 4000000 in
theorem cubes_any (w : World) (Ac : Option Addr) (Dc nc cc : Nat) (lc : List Nat) (hrc : ReadsL w Dc Ac lc) (hdc : lc ≠ [] → Dc < w.heap.size) (hlc : lc.length = nc) (hcc : nc ≤ cc) (hmc : cc ≤ maxLen) (hsc : Small lc)
    (Am : Option Addr) (Dm nm cm : Nat) (lm : List Nat) (hrm : ReadsL w Dm Am lm) (hdm : lm ≠ [] → Dm < w.heap.size) (hlm : lm.length = nm) (hcm : nm ≤ cm) (hmm : cm ≤ maxLen) (hsm : Small lm)
    (which : Int) (v : Nat) (hv : v < 2 ^ 128) : Calls Try.prog 6 #[.slice Ac nc cc, .slice Am nm cm, .int .i64 which, .agg #[.int .u64 (hi v), .int .u64 (lo v)]] w (RetX (.bool true) w) := by
  obtain ⟨W0, hW0⟩ : ∃ W, W = (w.alloc (.cells #[.int .u64 (hi v), .int .u64 (lo v)] 25)) := ⟨_, rfl⟩
  have hB0 : Below w.heap.size w W0 := by rw [hW0]; exact ((Below.refl w.heap.size w).alloc (by simp <;> omega) _)
  have hz0 : W0.heap.size = w.heap.size + 1 := by rw [hW0]; simp
  have b0_0 : W0.heap[w.heap.size]? = some (.cells #[.int .u64 (hi v), .int .u64 (lo v)] 25 (0, 0)) := by
    rw [hW0]
    exact heap_alloc_new _ _
  have BP0_0 := Lib.hid b0_0
  have HB0 := Lib.hid hB0
  have HW0 := Lib.hid hW0
  have KN0 := cs_newL 120 (by decide) Ac Dc nc cc lc W0 (hrc.kept' (grown_of_below hB0 none) (fun _ => by simp)) (fun h => Nat.lt_of_lt_of_le (hdc h) hB0.size) hlc hcc hmc hsc
  rw [show ((120 : Nat) : Int) = 120 from rfl] at KN0
  have KN := Lib.hid KN0
  clear KN0
  have HRM := Lib.hid hrm
  have HDM := Lib.hid hdm
  have HLM := Lib.hid hlm
  have HSM := Lib.hid hsm
  have HDC := Lib.hid hdc
  clear hB0 hW0 hrc hdc hlc hcc hmc hsc hrm hdm hlm hsm b0_0
  go_enter Try.func6, Try.ntmps6
  go_upto_region 1 with fail
  rw [← HW0.out]
  go_wp2_with fail
  with_reducible refine KN.out.mono ?_
  rintro en w2 ⟨rfl, hb2, hl2, hc2⟩
  rw [hz0] at hl2 hc2
  have HB2 := Lib.hid (HB0.out.trans (hb2.mono HB0.out.size))
  have HC2 := Lib.hid hc2
  have hz2 := hb2.size
  have BP2_0 := Lib.hid ((hb2.block (w.heap.size) (by omega)).trans BP0_0.out)
  clear hb2 hc2 KN
  go_wp2_with fail
  with_reducible refine (schema_any HC2.out).mono ?_
  rintro en w3 ⟨v0, v1, v2, v3, v4, v5, v6, v7, x, rfl, ⟨hok, -⟩, hel, hg3, p3, -⟩
  have hM := schM_of hok (hel w3 w3.heap.size (.refl (Nat.le_refl _)) (Nat.le_refl _))
  obtain ⟨A0, n0, c0, rfl, _⟩ := hM.f.parts
  obtain ⟨A1, n1, c1, rfl, _⟩ := hM.h.parts
  obtain ⟨A2, n2, c2, rfl, _⟩ := hM.st.parts
  obtain ⟨A3, n3, c3, rfl, _⟩ := hM.a.parts
  obtain ⟨A4, n4, c4, rfl, _⟩ := hM.t.parts
  obtain ⟨A5, n5, c5, rfl, _⟩ := hM.sg.parts
  obtain ⟨A6, n6, c6, rfl, _⟩ := hM.r.parts
  obtain ⟨A7, n7, c7, rfl, _⟩ := hM.rf.parts
  have hz3 := hg3.size
  have BP3_0 := Lib.hid ((hg3.block (w.heap.size) (by omega) (fun e => by injection e with e; omega)).trans BP2_0.out)
  have HB3 := Lib.hid (HB2.out.trans (below_grownK hg3 (B := w.heap.size) (by omega) (by omega)))
  have KN20 := cs_newL 40 (by decide) Am Dm nm cm lm w3 ((HRM.out.kept' (grown_of_below HB2.out none) (fun _ => by simp)).kept' hg3 (fun h e => by have := HDM.out h; injection e with e; omega)) (fun h => Nat.lt_of_lt_of_le (HDM.out h) HB3.out.size) HLM.out hcm hmm HSM.out
  rw [show ((40 : Nat) : Int) = 40 from rfl] at KN20
  have KN2 := Lib.hid KN20
  clear KN20
  have HOK := Lib.hid hok
  have HM3 := Lib.hid hM
  clear hM hok hel hg3 HC2
  go_wp2_with fail
  with_reducible refine KN2.out.mono ?_
  rintro en w4 ⟨rfl, hb4, hl4, hc4⟩
  have hz4 := hb4.size
  have BP4_0 := Lib.hid ((hb4.block (w.heap.size) (by omega)).trans BP3_0.out)
  obtain ⟨W5, hW5⟩ : ∃ W, W = w4.alloc (.cells #[.slice A0 n0 c0, .slice A1 n1 c1, .slice A2 n2 c2, .slice A3 n3 c3, .slice A4 n4 c4, .slice A5 n5 c5, .slice A6 n6 c6, .slice A7 n7 c7, .int .i64 x.maxBatch, .int .i64 x.budget] 45) := ⟨_, rfl⟩
  have hb5 : Below w4.heap.size w4 W5 := by rw [hW5]; exact (Below.refl _ _).alloc (Nat.le_refl _) _
  have hz5 : W5.heap.size = w4.heap.size + 1 := by rw [hW5]; simp
  have BS5 : Hid (W5.heap[w4.heap.size]? = some (.cells #[.slice A0 n0 c0, .slice A1 n1 c1, .slice A2 n2 c2, .slice A3 n3 c3, .slice A4 n4 c4, .slice A5 n5 c5, .slice A6 n6 c6, .slice A7 n7 c7, .int .i64 x.maxBatch, .int .i64 x.budget] 45 (0, 0))) := Lib.hid (by rw [hW5]; exact heap_alloc_new _ _)
  have BP5_0 := Lib.hid ((hb5.block (w.heap.size) (by omega)).trans BP4_0.out)
  have hb45 := hb4.trans (hb5.mono hz4)
  have HB5 := Lib.hid (HB3.out.trans (hb45.mono HB3.out.size))
  have HM5 := Lib.hid (HM3.out.below hb45)
  have HC5 := Lib.hid (hc4.belowC hb5)
  have HW5 := Lib.hid hW5
  have hzw : w.heap.size + 1 ≤ w3.heap.size := by omega
  clear hb4 hb5 hb45 hc4 hW5 KN2 HM3 HRM HDM HLM HSM HDC HB0 HB2 HB3 hl2 hz2 hz3 hz0 HW0 BP0_0 BP2_0 BP3_0 BP4_0
  go_upto_region 2 with fail
  rw [← HW5.out]
  obtain ⟨r, hr4, hwh⟩ := modI_nat which 4 (by decide)
  have hxl := (tables_keys HOK.out.tables).2.1
  obtain ⟨t, ht⟩ : ∃ t, x.tables[r]? = some t := ⟨_, List.getElem?_eq_getElem (by omega)⟩
  have HT := Lib.hid ht
  have KE := Lib.hid (cs_entry W5 w3.heap.size w3.heap.size Dm 0 (lm.take 40) HM5.out (gen_ok HOK.out) (by omega) (Nat.le_refl _) (.int .i64 x.maxBatch) (.int .i64 x.budget) HC5.out which r (by rw [hxl]; exact hwh) t ht)
  have HWH := Lib.hid hwh
  have HXL := Lib.hid hxl
  clear ht hwh hxl
  have s0 : W5.cell? ⟨w4.heap.size, 0, none⟩ = some (.slice A0 n0 c0) := blk_cell BS5.out 0 _ rfl
  have s1 : W5.cell? ⟨w4.heap.size, 1, none⟩ = some (.slice A1 n1 c1) := blk_cell BS5.out 1 _ rfl
  have s2 : W5.cell? ⟨w4.heap.size, 2, none⟩ = some (.slice A2 n2 c2) := blk_cell BS5.out 2 _ rfl
  have s3 : W5.cell? ⟨w4.heap.size, 3, none⟩ = some (.slice A3 n3 c3) := blk_cell BS5.out 3 _ rfl
  have s4 : W5.cell? ⟨w4.heap.size, 4, none⟩ = some (.slice A4 n4 c4) := blk_cell BS5.out 4 _ rfl
  have s5 : W5.cell? ⟨w4.heap.size, 5, none⟩ = some (.slice A5 n5 c5) := blk_cell BS5.out 5 _ rfl
  have s6 : W5.cell? ⟨w4.heap.size, 6, none⟩ = some (.slice A6 n6 c6) := blk_cell BS5.out 6 _ rfl
  have s7 : W5.cell? ⟨w4.heap.size, 7, none⟩ = some (.slice A7 n7 c7) := blk_cell BS5.out 7 _ rfl
  have s8 : W5.cell? ⟨w4.heap.size, 8, none⟩ = some (.int .i64 x.maxBatch) := blk_cell BS5.out 8 _ rfl
  have s9 : W5.cell? ⟨w4.heap.size, 9, none⟩ = some (.int .i64 x.budget) := blk_cell BS5.out 9 _ rfl
  go_wp2_with fail
  with_reducible refine KE.out.mono ?_
  rintro en w6 ⟨ve, ue, e, rfl, hfit, hrme, hrue, hg6, p6, hc6⟩
  obtain ⟨Ae, me, ce, rfl, hme, hce, hmxe⟩ := (hrme w6 w6.heap.size (.refl (Nat.le_refl _)) (Nat.le_refl _)).parts
  obtain ⟨Au, nu, cu, rfl, _⟩ := (hrue w6 w6.heap.size (.refl (Nat.le_refl _)) (Nat.le_refl _)).parts
  have hz6 := hg6.size
  obtain ⟨W7, hW7⟩ : ∃ W, W = w6.alloc (.cells #[.int .i64 e.table, .slice Ae me ce, .int .i64 e.prio, .int .i64 e.action, .slice Au nu cu] 51) := ⟨_, rfl⟩
  have hb7 : Below w6.heap.size w6 W7 := by rw [hW7]; exact (Below.refl _ _).alloc (Nat.le_refl _) _
  have hz7 : W7.heap.size = w6.heap.size + 1 := by rw [hW7]; simp
  have bn7 : W7.heap[w6.heap.size]? = some (.cells #[.int .i64 e.table, .slice Ae me ce, .int .i64 e.prio, .int .i64 e.action, .slice Au nu cu] 51 (0, 0)) := by rw [hW7]; exact heap_alloc_new _ _
  have HW7 := Lib.hid hW7
  have HFIT := Lib.hid hfit
  have KP := Lib.hid (cs_pointH W7 w3.heap.size Dm p6 (lm.take 40) (hc6.belowC hb7))
  clear hW7 hfit hc6 KE HC5 s0 s1 s2 s3 s4 s5 s6 s7 s8 s9
  go_upto_region 3 with fail
  rw [← HW7.out]
  go_wp2_with fail
  with_reducible refine KP.out.mono ?_
  rintro en w8 ⟨y, rfl, hy, hg8, p8, -⟩
  have hz8 := hg8.size
  obtain ⟨W9, hW9⟩ : ∃ W, W = w8.alloc (.cells #[.int .u64 (hi (y 0)), .int .u64 (lo (y 0)), .int .u64 (hi (y 1)), .int .u64 (lo (y 1)), .int .u64 (hi (y 2)), .int .u64 (lo (y 2)), .int .u64 (hi (y 3)), .int .u64 (lo (y 3))] 29) := ⟨_, rfl⟩
  have hb9 : Below w8.heap.size w8 W9 := by rw [hW9]; exact (Below.refl _ _).alloc (Nat.le_refl _) _
  have hz9 : W9.heap.size = w8.heap.size + 1 := by rw [hW9]; simp
  have bn9 : W9.heap[w8.heap.size]? = some (.cells #[.int .u64 (hi (y 0)), .int .u64 (lo (y 0)), .int .u64 (hi (y 1)), .int .u64 (lo (y 1)), .int .u64 (hi (y 2)), .int .u64 (lo (y 2)), .int .u64 (hi (y 3)), .int .u64 (lo (y 3))] 29 (0, 0)) := by rw [hW9]; exact heap_alloc_new _ _
  have HW9 := Lib.hid hW9
  have h68 : SameB W5.heap.size w6.heap.size w6 w8 := (SameB.of_grown (grown_of_below hb7 none) (Nat.le_refl _) (fun k e => by cases e)).trans (.of_grown hg8 (by omega) (fun k e => by injection e with e; omega))
  have hB58 : Below w3.heap.size W5 w8 := (below_grownK hg6 (Nat.le_refl _) (by omega)).trans ((hb7.mono (by omega)).trans (below_grownK hg8 (Nat.le_refl _) (by omega)))
  have HM9 := Lib.hid (HM5.out.below (hB58.trans (hb9.mono (by omega))))
  have HRM9 : Hid (RowV 8 MatchV w8.heap.size W9 (.slice Ae me ce) e.ms) := Lib.hid ((hrme w8 w8.heap.size h68 (by omega)).below kept_match hb9)
  have BS9 := Lib.hid ((hb9.block w4.heap.size (by omega)).trans ((hg8.block w4.heap.size (by omega) (fun e => by injection e with e; omega)).trans ((hb7.block w4.heap.size (by omega)).trans ((hg6.block w4.heap.size (by omega) (fun e => by injection e with e; omega)).trans BS5.out))))
  have BV9 := Lib.hid ((hb9.block w.heap.size (by omega)).trans ((hg8.block w.heap.size (by omega) (fun e => by injection e with e; omega)).trans ((hb7.block w.heap.size (by omega)).trans ((hg6.block w.heap.size (by omega) (fun e => by injection e with e; omega)).trans BP5_0.out))))
  have BE9 := Lib.hid ((hb9.block w6.heap.size (by omega)).trans ((hg8.block w6.heap.size (by omega) (fun e => by injection e with e; omega)).trans bn7))
  have BY9 := Lib.hid bn9
  have HB9 := Lib.hid (HB5.out.trans (((below_grownK hg6 (B := w.heap.size) (by omega) (by omega)).trans ((hb7.mono (by omega)).trans (below_grownK hg8 (by omega) (by omega)))).trans (hb9.mono (by omega))))
  have HY := Lib.hid hy
  clear hW9 hrme hrue hg6 hg8 h68 hB58 hb7 hb9 bn7 bn9 hy KP HM5 HB5 BS5 BP5_0
  have hrx : r < x.tables.length := by rw [HXL.out]; exact hr4
  obtain ⟨hn4, hc4, hm4⟩ := HM9.out.t.len
  obtain ⟨tb, tof, e4, t', htk, htbB, cs, hcs, hV⟩ := row_at HM9.out.t hrx
  obtain rfl : t = t' := by have := HT.out; rw [htk] at this; injection this with this; exact this.symm
  obtain ⟨vk, va, vr, rfl, -, -, rk, ra, -, rr, -⟩ := hV
  subst e4
  obtain ⟨Ak, nk, ck, rfl, hnk, hck, hmk⟩ := rk.parts
  obtain ⟨Aa, na, ca, rfl, _⟩ := ra.parts
  obtain ⟨Ar, nr, cr, rfl, _⟩ := rr.parts
  have hn4' : n4 = 4 := by rw [hn4.out, HXL.out]
  have HRK9 := Lib.hid rk
  have KM : Hid (∀ W, Calls Try.prog 7 #[.int .i64 which, .int .i64 (n4 : Int)] W fun e w' => e = .returned (.int .i64 (r : Int)) ∧ w' = W) := Lib.hid fun W => by
    have := cs_modE which n4 (by omega) (by omega) W
    rw [show modI which n4 = (r : Int) from by rw [hn4']; exact HWH.out] at this
    exact this
  have HKS : Hid (∀ w', Below W9.heap.size W9 w' → Below W9.heap.size W9 w' ∧ w'.cell? ⟨w4.heap.size, 4, none⟩ = some (.slice (some ⟨tb, tof, none⟩) n4 c4) ∧ w'.cell? ⟨tb, tof + r * 8, none⟩ = some (.int .i64 t.id) ∧ w'.cell? ⟨tb, tof + r * 8 + 1, none⟩ = some (.string (strL t.name)) ∧ w'.cell? ⟨tb, tof + r * 8 + 2, none⟩ = some (.slice Ak nk ck) ∧ w'.cell? ⟨tb, tof + r * 8 + 3, none⟩ = some (.slice Aa na ca) ∧ w'.cell? ⟨tb, tof + r * 8 + 4, none⟩ = some (.int .i64 t.dflt) ∧ w'.cell? ⟨tb, tof + r * 8 + 5, none⟩ = some (.slice Ar nr cr) ∧ w'.cell? ⟨tb, tof + r * 8 + 6, none⟩ = some (.int .i64 t.size) ∧ w'.cell? ⟨tb, tof + r * 8 + 7, none⟩ = some (.string (strL t.restr))) := Lib.hid fun w' hb => by
    have q0 := (hb.block w4.heap.size (by omega)).trans BS9.out
    have q : ∀ j v, [.int .i64 t.id, .string (strL t.name), .slice Ak nk ck, .slice Aa na ca, .int .i64 t.dflt, .slice Ar nr cr, .int .i64 t.size, .string (strL t.restr)][j]? = some v → w'.cell? ⟨tb, tof + r * 8 + j, none⟩ = some v := fun j v e => by
      rw [hb.cell (p := ⟨tb, tof + r * 8 + j, none⟩) (show tb < W9.heap.size by omega)]
      exact hcs.at j v e
    exact ⟨hb, blk_cell q0 4 _ rfl, q 0 _ rfl, q 1 _ rfl, q 2 _ rfl, q 3 _ rfl, q 4 _ rfl, q 5 _ rfl, q 6 _ rfl, q 7 _ rfl⟩
  have hr0 : 0 ≤ (r : Int) := by omega
  have hlt4 : (r : Int) < (n4 : Int) := by omega
  have hlt4c : (r : Int) < (c4 : Int) := by omega
  have htbl : tb < w8.heap.size := by omega
  clear hcs rk ra rr htk hn4'
  go_upto_region 4 with fail
  rw [← HW9.out]
  go_cut [13] from 30 to 38 (fun v13 wx => v13 = .pointer (some ⟨w8.heap.size + 1, 0, none⟩) ∧ wx = (W9.alloc (.cells #[.int .i64 t.id, .string (strL t.name), .slice Ak nk ck, .slice Aa na ca, .int .i64 t.dflt, .slice Ar nr cr, .int .i64 t.size, .string (strL t.restr)] 71)).drew)
  case first =>
    go_region_held3 (fun w' => Below W9.heap.size W9 w' ∧ w'.cell? ⟨w4.heap.size, 4, none⟩ = some (.slice (some ⟨tb, tof, none⟩) n4 c4) ∧ w'.cell? ⟨tb, tof + r * 8, none⟩ = some (.int .i64 t.id) ∧ w'.cell? ⟨tb, tof + r * 8 + 1, none⟩ = some (.string (strL t.name)) ∧ w'.cell? ⟨tb, tof + r * 8 + 2, none⟩ = some (.slice Ak nk ck) ∧ w'.cell? ⟨tb, tof + r * 8 + 3, none⟩ = some (.slice Aa na ca) ∧ w'.cell? ⟨tb, tof + r * 8 + 4, none⟩ = some (.int .i64 t.dflt) ∧ w'.cell? ⟨tb, tof + r * 8 + 5, none⟩ = some (.slice Ar nr cr) ∧ w'.cell? ⟨tb, tof + r * 8 + 6, none⟩ = some (.int .i64 t.size) ∧ w'.cell? ⟨tb, tof + r * 8 + 7, none⟩ = some (.string (strL t.restr)))
      (first
        | exact HKS.out _ (Below.drew (Below.refl _ _))
        | exact HKS.out _ (below_alloc (And.left (by assumption)) _)
        | exact HKS.out _ (Below.drew (below_alloc (Below.refl _ _) _))
        | assumption)
      (first
        | (go_at_call 7; (with_reducible refine (KM.out _).mono ?_); rintro en v1 ⟨rfl, rfl⟩))
    all_goals go_wp2_with fail
    all_goals go_meet
    all_goals exact ⟨rfl, rfl⟩
  case rest =>
    obtain ⟨rfl, hwc⟩ := hcut
    obtain ⟨W10, hW10⟩ : ∃ z, z = wc := ⟨_, rfl⟩
    subst hW10
    have hb10 : Below W9.heap.size W9 W10 := by rw [hwc]; exact Below.drew (below_alloc (Below.refl _ _) _)
    have bT10 : W10.heap[w8.heap.size + 1]? = some (.cells #[.int .i64 t.id, .string (strL t.name), .slice Ak nk ck, .slice Aa na ca, .int .i64 t.dflt, .slice Ar nr cr, .int .i64 t.size, .string (strL t.restr)] 71 (0, 0)) := by rw [hwc, ← hz9]; exact heap_alloc_new W9 _
    have hz10 : W10.heap.size = w8.heap.size + 2 := by
      rw [hwc]
      show (W9.alloc _).heap.size = _
      simp [hz9]
    have y0 : W10.cell? ⟨w8.heap.size, 0, none⟩ = some (.int .u64 (hi (y 0))) := blk_cell ((hb10.block w8.heap.size (by omega)).trans BY9.out) 0 _ rfl
    have y1 : W10.cell? ⟨w8.heap.size, 1, none⟩ = some (.int .u64 (lo (y 0))) := blk_cell ((hb10.block w8.heap.size (by omega)).trans BY9.out) 1 _ rfl
    have y2 : W10.cell? ⟨w8.heap.size, 2, none⟩ = some (.int .u64 (hi (y 1))) := blk_cell ((hb10.block w8.heap.size (by omega)).trans BY9.out) 2 _ rfl
    have y3 : W10.cell? ⟨w8.heap.size, 3, none⟩ = some (.int .u64 (lo (y 1))) := blk_cell ((hb10.block w8.heap.size (by omega)).trans BY9.out) 3 _ rfl
    have y4 : W10.cell? ⟨w8.heap.size, 4, none⟩ = some (.int .u64 (hi (y 2))) := blk_cell ((hb10.block w8.heap.size (by omega)).trans BY9.out) 4 _ rfl
    have y5 : W10.cell? ⟨w8.heap.size, 5, none⟩ = some (.int .u64 (lo (y 2))) := blk_cell ((hb10.block w8.heap.size (by omega)).trans BY9.out) 5 _ rfl
    have y6 : W10.cell? ⟨w8.heap.size, 6, none⟩ = some (.int .u64 (hi (y 3))) := blk_cell ((hb10.block w8.heap.size (by omega)).trans BY9.out) 6 _ rfl
    have y7 : W10.cell? ⟨w8.heap.size, 7, none⟩ = some (.int .u64 (lo (y 3))) := blk_cell ((hb10.block w8.heap.size (by omega)).trans BY9.out) 7 _ rfl
    obtain ⟨W11, hW11⟩ : ∃ W, W = W10.alloc (.cells #[.int .u64 (hi (y 0)), .int .u64 (lo (y 0)), .int .u64 (hi (y 1)), .int .u64 (lo (y 1)), .int .u64 (hi (y 2)), .int .u64 (lo (y 2)), .int .u64 (hi (y 3)), .int .u64 (lo (y 3))] 29) := ⟨_, rfl⟩
    have hb11 : Below W10.heap.size W10 W11 := by rw [hW11]; exact (Below.refl _ _).alloc (Nat.le_refl _) _
    have hz11 : W11.heap.size = W10.heap.size + 1 := by rw [hW11]; simp
    have bn11 : W11.heap[W10.heap.size]? = some (.cells #[.int .u64 (hi (y 0)), .int .u64 (lo (y 0)), .int .u64 (hi (y 1)), .int .u64 (lo (y 1)), .int .u64 (hi (y 2)), .int .u64 (lo (y 2)), .int .u64 (hi (y 3)), .int .u64 (lo (y 3))] 29 (0, 0)) := by rw [hW11]; exact heap_alloc_new _ _
    have HW11 := Lib.hid hW11
    have hb911 := hb10.trans (hb11.mono hb10.size)
    have HM11 := Lib.hid (HM9.out.below (hb911.mono (by omega)))
    have HRM11 := Lib.hid (HRM9.out.below kept_match (hb911.mono (by omega)))
    have HRK11 := Lib.hid (HRK9.out.below kept_key (hb911.mono (by omega)))
    have BS11 := Lib.hid ((hb911.block w4.heap.size (by omega)).trans BS9.out)
    have BV11 := Lib.hid ((hb911.block w.heap.size (by omega)).trans BV9.out)
    have BE11 := Lib.hid ((hb911.block w6.heap.size (by omega)).trans BE9.out)
    have BY11 := Lib.hid ((hb911.block w8.heap.size (by omega)).trans BY9.out)
    have BT11 := Lib.hid ((hb11.block (w8.heap.size + 1) (by omega)).trans bT10)
    have BQ11 : Hid (W11.heap[w8.heap.size + 2]? = some (.cells (ptc y).toArray 29 (0, 0))) := Lib.hid (by rw [← hz10]; exact bn11)
    have HB11 := Lib.hid (HB9.out.trans (hb911.mono (by omega)))
    have hz11' : W11.heap.size = w8.heap.size + 3 := by omega
    clear hwc hb10 bT10 hb11 bn11 hW11 hb911 HM9 HRM9 HRK9 BS9 BV9 BE9 BY9 HB9 HKS KM
    go_upto_region 6 with fail
    rw [← HW11.out]
    clear y0 y1 y2 y3 y4 y5 y6 y7
    have k2 : W11.cell? ⟨w8.heap.size + 1, 2, none⟩ = some (.slice Ak nk ck) := blk_cell BT11.out 2 _ rfl
    have htl := tab_len HOK.out.tables HT.out
    have hnk4 : nk ≤ 4 := by rw [hnk.out]; exact htl
    have hmn : me = nk := by rw [hme.out, hnk.out]; exact HFIT.out.len
    have HMN := Lib.hid hmn
    subst hmn
    clear htl
    go_wp2_with fail
    go_loopw [43] (fun i W => ∃ q : Nat, q ≤ me ∧ i = .int .i64 q ∧ CubI x.fields t.keys e.ms y (w8.heap.size + 2) W11 q W) (fun i _ => me - (intOf i).toNat)
    case atStart => exact ⟨0, by omega, rfl, Below.refl _ _, Nat.le_refl _, y, BQ11.out, HY.out, fun _ _ => rfl, fun i _ _ hi => absurd hi (by omega)⟩
    case round =>
      clear k2
      obtain ⟨q, hq, rfl, hI⟩ := hrel
      have HI := Lib.hid hI
      have hzr := hI.size
      have ber := (hI.below.block w6.heap.size (by omega)).trans BE11.out
      have byr := (hI.below.block w8.heap.size (by omega)).trans BY11.out
      have bvr := (hI.below.block w.heap.size (by omega)).trans BV11.out
      by_cases hlt : q < me
      · have hkI : (q : Int) < (me : Int) := by omega
        have hkc : (q : Int) < (ck : Int) := by omega
        have hkc1 : (q : Int) < (ce : Int) := by omega
        have hk0 : 0 ≤ (q : Int) := by omega
        have hk4 : (q : Int) < 4 := by omega
        obtain ⟨kb, ko, e1, k, hkk, hkbB, cs, hcs, hV⟩ := row_at (HRK11.out.below kept_key (hI.below.mono (by omega))) (q := q) (by rw [← hnk.out]; exact hlt)
        obtain ⟨mb, mo, e2, m, hmm, hmbB, ds, hds, hVM⟩ := row_at (HRM11.out.below kept_match (hI.below.mono (by omega))) (q := q) (by rw [← hme.out]; exact hlt)
        obtain ⟨rfl, -⟩ := hV
        obtain ⟨rfl, hmok⟩ := hVM
        subst e1
        subst e2
        obtain ⟨b, hbf, hb32, hmf⟩ := HFIT.out.fit q k m hkk hmm
        have hks := (gen_ok HOK.out).keys t (List.mem_of_getElem? HT.out) k (List.mem_of_getElem? hkk)
        have hb2 : k.kind = 2 → b = 32 := fun h => by
          obtain ⟨b', h1, _, _, h2⟩ := hks
          rw [hbf] at h1
          have : b = b' := by omega
          subst this
          rcases h2 with h2 | ⟨_, h2⟩ | h2 | h2
          · omega
          · exact h2
          · omega
          · omega
        have hk14 : k.kind = 1 ∨ k.kind = 2 ∨ k.kind = 3 ∨ k.kind = 4 := by
          obtain ⟨b', _, _, _, h2⟩ := hks
          rcases h2 with h2 | ⟨h2, _⟩ | h2 | h2
          · exact .inl h2
          · exact .inr (.inl h2)
          · exact .inr (.inr (.inl h2))
          · exact .inr (.inr (.inr h2))
        have d0 : wr.cell? ⟨kb, ko + q * 3, none⟩ = some _ := hcs.at0 _ rfl
        have d1 : wr.cell? ⟨kb, ko + q * 3 + 1, none⟩ = some _ := hcs.at 1 _ rfl
        have d2 : wr.cell? ⟨kb, ko + q * 3 + 2, none⟩ = some _ := hcs.at 2 _ rfl
        have g1 : wr.cell? ⟨w6.heap.size, 1, none⟩ = some (.slice (some ⟨mb, mo, none⟩) me ce) := blk_cell ber 1 _ rfl
        have x0 : wr.cell? ⟨mb, mo + q * 8, none⟩ = some _ := hds.at0 _ rfl
        have x1 : wr.cell? ⟨mb, mo + q * 8 + 1, none⟩ = some _ := hds.at 1 _ rfl
        have x2 : wr.cell? ⟨mb, mo + q * 8 + 2, none⟩ = some _ := hds.at 2 _ rfl
        have x3 : wr.cell? ⟨mb, mo + q * 8 + 3, none⟩ = some _ := hds.at 3 _ rfl
        have x4 : wr.cell? ⟨mb, mo + q * 8 + 4, none⟩ = some _ := hds.at 4 _ rfl
        have x5 : wr.cell? ⟨mb, mo + q * 8 + 5, none⟩ = some _ := hds.at 5 _ rfl
        have x6 : wr.cell? ⟨mb, mo + q * 8 + 6, none⟩ = some _ := hds.at 6 _ rfl
        have x7 : wr.cell? ⟨mb, mo + q * 8 + 7, none⟩ = some _ := hds.at 7 _ rfl
        have v0 : wr.cell? ⟨w.heap.size, 0, none⟩ = some (.int .u64 (hi v)) := blk_cell bvr 0 _ rfl
        have v1 : wr.cell? ⟨w.heap.size, 1, none⟩ = some (.int .u64 (lo v)) := blk_cell bvr 1 _ rfl
        obtain ⟨W14, hW14⟩ : ∃ W, W = ((wr.alloc (.cells #[.string (strL k.name), .int .i64 k.field, .int .i64 k.kind] 73)).alloc (.cells #[.bool m.pres, .int .u64 (hi m.val), .int .u64 (lo m.val), .int .u64 (hi m.mask), .int .u64 (lo m.mask), .int .i64 m.pre, .int .u64 (hi m.high), .int .u64 (lo m.high)] 27)).alloc (.cells #[.int .u64 (hi v), .int .u64 (lo v)] 25) := ⟨_, rfl⟩
        have hB14 : Below wr.heap.size wr W14 := by rw [hW14]; exact ((((Below.refl wr.heap.size wr).alloc (by simp <;> omega) _).alloc (by simp <;> omega) _).alloc (by simp <;> omega) _)
        have hz14 : W14.heap.size = wr.heap.size + 3 := by rw [hW14]; simp
        have b14_0 : W14.heap[wr.heap.size]? = some (.cells #[.string (strL k.name), .int .i64 k.field, .int .i64 k.kind] 73 (0, 0)) := by
          rw [hW14]
          exact ((((Below.refl (wr.alloc (.cells #[.string (strL k.name), .int .i64 k.field, .int .i64 k.kind] 73)).heap.size (wr.alloc (.cells #[.string (strL k.name), .int .i64 k.field, .int .i64 k.kind] 73))).alloc (by simp <;> omega) _).alloc (by simp <;> omega) _).block wr.heap.size (by simp)).trans (heap_alloc_new _ _)
        have b14_1 : W14.heap[wr.heap.size + 1]? = some (.cells #[.bool m.pres, .int .u64 (hi m.val), .int .u64 (lo m.val), .int .u64 (hi m.mask), .int .u64 (lo m.mask), .int .i64 m.pre, .int .u64 (hi m.high), .int .u64 (lo m.high)] 27 (0, 0)) := by
          rw [hW14]
          rw [show wr.heap.size + 1 = (wr.alloc (.cells #[.string (strL k.name), .int .i64 k.field, .int .i64 k.kind] 73)).heap.size by simp]
          exact (((Below.refl ((wr.alloc (.cells #[.string (strL k.name), .int .i64 k.field, .int .i64 k.kind] 73)).alloc (.cells #[.bool m.pres, .int .u64 (hi m.val), .int .u64 (lo m.val), .int .u64 (hi m.mask), .int .u64 (lo m.mask), .int .i64 m.pre, .int .u64 (hi m.high), .int .u64 (lo m.high)] 27)).heap.size ((wr.alloc (.cells #[.string (strL k.name), .int .i64 k.field, .int .i64 k.kind] 73)).alloc (.cells #[.bool m.pres, .int .u64 (hi m.val), .int .u64 (lo m.val), .int .u64 (hi m.mask), .int .u64 (lo m.mask), .int .i64 m.pre, .int .u64 (hi m.high), .int .u64 (lo m.high)] 27))).alloc (by simp <;> omega) _).block (wr.alloc (.cells #[.string (strL k.name), .int .i64 k.field, .int .i64 k.kind] 73)).heap.size (by simp)).trans (heap_alloc_new _ _)
        have b14_2 : W14.heap[wr.heap.size + 2]? = some (.cells #[.int .u64 (hi v), .int .u64 (lo v)] 25 (0, 0)) := by
          rw [hW14]
          rw [show wr.heap.size + 2 = ((wr.alloc (.cells #[.string (strL k.name), .int .i64 k.field, .int .i64 k.kind] 73)).alloc (.cells #[.bool m.pres, .int .u64 (hi m.val), .int .u64 (lo m.val), .int .u64 (hi m.mask), .int .u64 (lo m.mask), .int .i64 m.pre, .int .u64 (hi m.high), .int .u64 (lo m.high)] 27)).heap.size by simp]
          exact heap_alloc_new _ _
        have BK14 := Lib.hid b14_0
        have BM14 := Lib.hid b14_1
        have BL14 := Lib.hid b14_2
        have BV14 := Lib.hid ((hB14.block w.heap.size (by omega)).trans bvr)
        have HB14 := Lib.hid hB14
        have HW14 := Lib.hid hW14
        have HKK := Lib.hid (And.intro hkk hmm)
        obtain ⟨F, hF⟩ : ∃ F, F = fbits x.fields k.field := ⟨_, rfl⟩
        have HF := Lib.hid hF
        rw [← hF] at hbf
        have HBF := Lib.hid hbf
        have HMF := Lib.hid hmf
        have HK14 := Lib.hid hk14
        have HKB2 := Lib.hid hb2
        have HMOK := Lib.hid hmok
        have hsv : Hid (∀ w', Below W14.heap.size W14 w' → w'.cell? ⟨w.heap.size, 0, none⟩ = some (.int .u64 (hi v)) ∧ w'.cell? ⟨w.heap.size, 1, none⟩ = some (.int .u64 (lo v)) ∧ w'.heap[wr.heap.size + 2]? = some (.cells #[.int .u64 (hi v), .int .u64 (lo v)] 25 (0, 0)) ∧ w'.heap[wr.heap.size + 1]? = some (.cells #[.bool m.pres, .int .u64 (hi m.val), .int .u64 (lo m.val), .int .u64 (hi m.mask), .int .u64 (lo m.mask), .int .i64 m.pre, .int .u64 (hi m.high), .int .u64 (lo m.high)] 27 (0, 0))) := Lib.hid fun w' hb => ⟨blk_cell ((hb.block w.heap.size (by omega)).trans BV14.out) 0 _ rfl, blk_cell ((hb.block w.heap.size (by omega)).trans BV14.out) 1 _ rfl, (hb.block (wr.heap.size + 2) (by omega)).trans BL14.out, (hb.block (wr.heap.size + 1) (by omega)).trans BM14.out⟩
        clear hI hcs hds hkk hmm hW14 hB14 b14_0 b14_1 b14_2 hmok hbf hmf hk14 hb2 hks ber bvr hF
        have hl6 : w6.heap.size < wr.heap.size := by omega
        have hmbl : mb < wr.heap.size := by omega
        have hwl : w.heap.size < wr.heap.size := by omega
        go_upto_block 2 with (fail)
        rw [← HW14.out]
        clear d0 d1 d2 g1 v0 v1 x0 x1 x2 x3 x4 x5 x6 x7
        go_cut [] from 54 to 77 (fun wx => ∃ L : Nat, L < 2 ^ 128 ∧ Below (wr.heap.size + 2) W14 wx ∧ wx.heap[wr.heap.size + 2]? = some (.cells #[.int .u64 (hi L), .int .u64 (lo L)] 25 (0, 0)) ∧ Hid (covM m k.kind F (y q) ↔ covM m k.kind F (y q ^^^ L)))
        case first =>
          have m1 : W14.cell? ⟨wr.heap.size + 1, 3, none⟩ = some (.int .u64 (hi m.mask)) := blk_cell BM14.out 3 _ rfl
          have m2 : W14.cell? ⟨wr.heap.size + 1, 4, none⟩ = some (.int .u64 (lo m.mask)) := blk_cell BM14.out 4 _ rfl
          have m5 : W14.cell? ⟨wr.heap.size + 1, 5, none⟩ = some (.int .i64 m.pre) := blk_cell BM14.out 5 _ rfl
          have k2 : W14.cell? ⟨wr.heap.size, 2, none⟩ = some (.int .i64 k.kind) := blk_cell BK14.out 2 _ rfl
          have l0 : W14.cell? ⟨wr.heap.size + 2, 0, none⟩ = some (.int .u64 (hi v)) := blk_cell BL14.out 0 _ rfl
          have l1 : W14.cell? ⟨wr.heap.size + 2, 1, none⟩ = some (.int .u64 (lo v)) := blk_cell BL14.out 1 _ rfl
          have f0 := blk_froz BL14.out 0
          have f1 := blk_froz BL14.out 1
          have v0 : W14.drew.cell? ⟨w.heap.size, 0, none⟩ = some (.int .u64 (hi v)) := blk_cell BV14.out 0 _ rfl
          have v1 : W14.drew.cell? ⟨w.heap.size, 1, none⟩ = some (.int .u64 (lo v)) := blk_cell BV14.out 1 _ rfl
          have hv64 : w.heap.size < W14.heap.size := by omega
          rcases (Bool.eq_false_or_eq_true m.pres).symm with hp | hp
          · have m0 : W14.cell? ⟨wr.heap.size + 1, 0, none⟩ = some (.bool false) := by rw [← hp]; exact blk_cell BM14.out 0 _ rfl
            have hcv : covM m k.kind F (y q) ↔ covM m k.kind F (y q ^^^ v) := ⟨fun _ => cov_pres hp HK14.out, fun _ => cov_pres hp HK14.out⟩
            have HCV := Lib.hid hcv
            clear hcv hp
            go_wp2_with fail
            go_meet
            exact ⟨v, hv, Below.refl _ _, BL14.out, HCV⟩
          · have m0 : W14.cell? ⟨wr.heap.size + 1, 0, none⟩ = some (.bool true) := by rw [← hp]; exact blk_cell BM14.out 0 _ rfl
            by_cases h2 : k.kind = 2
            · have HK2 := Lib.hid h2
              obtain ⟨n, hn1, hn2, hpn⟩ : ∃ n : Nat, 1 ≤ n ∧ n ≤ 32 ∧ m.pre = (n : Int) := by
                have hb := HKB2.out h2
                rcases HMF.out with ⟨_, rfl⟩ | ⟨h, _⟩ | ⟨_, _, n, _, h1, h3, rfl⟩ | ⟨h, _⟩ | ⟨h, _⟩
                · exact absurd hp (by decide)
                · omega
                · exact ⟨n, h1, by omega, rfl⟩
                · omega
                · omega
              obtain ⟨O, hO⟩ : ∃ O, O = ones (32 - (n : Int)) := ⟨_, rfl⟩
              have hO8 : O < 2 ^ 128 := by rw [hO]; unfold ones; have := Nat.pow_le_pow_right (n := 2) (by decide) (cl_le (32 - (n : Int))); have := Nat.two_pow_pos (cl (32 - (n : Int))); omega
              have hcv : covM m k.kind F (y q) ↔ covM m k.kind F (y q ^^^ (v &&& O)) := by
                have hb := HKB2.out h2
                subst hb
                rw [h2, HBF.out, hO, ← hpn]
                exact cube_lpm m n hn2 hpn (y q) v
              have HCV := Lib.hid hcv
              have hw3 : IntKind.i64.wrap (32 - (n : Int)) = 32 - (n : Int) := IntWalk.i64_in _ (by omega)
              have KO : Hid (∀ W, Calls Try.prog 31 #[.int .i64 (32 - (n : Int))] W (RetV O W)) := Lib.hid fun W => by rw [hO]; exact rones_any _ W
              have KA : Hid (∀ W, Calls Try.prog 30 #[.agg #[.int .u64 (hi v), .int .u64 (lo v)], .agg #[.int .u64 (hi O), .int .u64 (lo O)]] W (RetV (v &&& O) W)) := Lib.hid fun W => rand_any v O hv hO8 W
              rw [hpn] at m5
              rw [h2] at k2
              have m5d : W14.drew.cell? ⟨wr.heap.size + 1, 5, none⟩ = some (.int .i64 (n : Int)) := m5
              clear hcv hO hO8 h2 hp hpn
              go_wp2_with fail
              go_region_with (first
                | (go_at_call 31; (with_reducible refine (KO.out _).mono ?_); rintro en w15 ⟨rfl, hv15⟩; obtain ⟨v0', v1', q2, -⟩ := hsv.out _ ((Below.refl W14.heap.size W14).drew.trans hv15); have HB15 := Lib.hid ((Below.refl W14.heap.size W14).drew.trans hv15); have BL15 := Lib.hid q2; clear q2 hv15)
                | (go_at_call 30; (with_reducible refine (KA.out _).mono ?_); rintro en w16 ⟨rfl, hv16⟩; have HB16 := Lib.hid (HB15.out.trans (hv16.mono HB15.out.size)); have BL16 := Lib.hid ((hv16.block (wr.heap.size + 2) (by have := HB15.out.size; omega)).trans BL15.out); have r0 : w16.cell? ⟨wr.heap.size + 2, 0, none⟩ = some (.int .u64 (hi v)) := blk_cell BL16.out 0 _ rfl; have r1 : w16.cell? ⟨wr.heap.size + 2, 1, none⟩ = some (.int .u64 (lo v)) := blk_cell BL16.out 1 _ rfl; have f16 := blk_froz BL16.out 0; have g16 := blk_froz BL16.out 1; clear hv16))
              all_goals go_wp2_with fail
              all_goals go_meet
              all_goals exact ⟨v &&& O, and_128 hv, Below.setCell (Below.setCell (HB16.out.mono (show wr.heap.size + 2 ≤ W14.heap.size by omega)) (Nat.le_refl _) _) (Nat.le_refl _) _, blk_set (blk_set BL16.out 0 _) 1 _, HCV⟩
            · by_cases h3 : k.kind = 3
              · obtain ⟨O, hO⟩ : ∃ O, O = ones 128 &&& compl m.mask := ⟨_, rfl⟩
                have hO8 : O < 2 ^ 128 := by
                  rw [hO]
                  exact Nat.lt_of_le_of_lt Nat.and_le_left (by decide)
                have hcv : covM m k.kind F (y q) ↔ covM m k.kind F (y q ^^^ (v &&& O)) := by
                  rw [h3, hO]
                  exact cube_ternary m F (y q) v
                have HCV := Lib.hid hcv
                have KO : Hid (∀ W, Calls Try.prog 32 #[.agg #[.int .u64 (hi m.mask), .int .u64 (lo m.mask)], .int .i64 128] W (RetV O W)) := Lib.hid fun W => by rw [hO]; exact rnot_any _ 128 W
                have KA : Hid (∀ W, Calls Try.prog 30 #[.agg #[.int .u64 (hi v), .int .u64 (lo v)], .agg #[.int .u64 (hi O), .int .u64 (lo O)]] W (RetV (v &&& O) W)) := Lib.hid fun W => rand_any v O hv hO8 W
                rw [h3] at k2
                have m1d : W14.drew.cell? ⟨wr.heap.size + 1, 3, none⟩ = some (.int .u64 (hi m.mask)) := m1
                have m2d : W14.drew.cell? ⟨wr.heap.size + 1, 4, none⟩ = some (.int .u64 (lo m.mask)) := m2
                clear hcv hO hO8 h2 h3 hp
                go_wp2_with fail
                go_region_with (first
                  | (go_at_call 32; (with_reducible refine (KO.out _).mono ?_); rintro en w15 ⟨rfl, hv15⟩; obtain ⟨v0', v1', q2, -⟩ := hsv.out _ ((Below.refl W14.heap.size W14).drew.trans hv15); have HB15 := Lib.hid ((Below.refl W14.heap.size W14).drew.trans hv15); have BL15 := Lib.hid q2; clear q2 hv15)
                  | (go_at_call 30; (with_reducible refine (KA.out _).mono ?_); rintro en w16 ⟨rfl, hv16⟩; have HB16 := Lib.hid (HB15.out.trans (hv16.mono HB15.out.size)); have BL16 := Lib.hid ((hv16.block (wr.heap.size + 2) (by have := HB15.out.size; omega)).trans BL15.out); have r0 : w16.cell? ⟨wr.heap.size + 2, 0, none⟩ = some (.int .u64 (hi v)) := blk_cell BL16.out 0 _ rfl; have r1 : w16.cell? ⟨wr.heap.size + 2, 1, none⟩ = some (.int .u64 (lo v)) := blk_cell BL16.out 1 _ rfl; have f16 := blk_froz BL16.out 0; have g16 := blk_froz BL16.out 1; clear hv16))
                all_goals go_wp2_with fail
                all_goals go_meet
                all_goals exact ⟨v &&& O, and_128 hv, Below.setCell (Below.setCell (HB16.out.mono (show wr.heap.size + 2 ≤ W14.heap.size by omega)) (Nat.le_refl _) _) (Nat.le_refl _) _, blk_set (blk_set BL16.out 0 _) 1 _, HCV⟩
              · have hcv : covM m k.kind F (y q) ↔ covM m k.kind F (y q ^^^ 0) := by rw [Nat.xor_zero]
                have HCV := Lib.hid hcv
                clear hcv hp
                go_wp2_with fail
                go_meet
                exact ⟨0, by decide, Below.setCell (Below.setCell (Below.refl (wr.heap.size + 2) W14) (show wr.heap.size + 2 ≤ wr.heap.size + 1 + 1 by omega) _) (show wr.heap.size + 2 ≤ wr.heap.size + 1 + 1 by omega) _, blk_set (blk_set BL14.out 0 _) 1 _, HCV⟩
        case rest =>
          obtain ⟨L, hL8, hb15, bL15, HCV⟩ := hcut
          obtain ⟨W15, hW15⟩ : ∃ z, z = wc := ⟨_, rfl⟩
          subst hW15
          obtain ⟨z, hz, hz8, hzy, hzc⟩ := HI.out.ex
          have hq4 : q < 4 := by omega
          have BL15 := Lib.hid bL15
          have BQ15 := Lib.hid ((hb15.block (w8.heap.size + 2) (by omega)).trans ((HB14.out.block (w8.heap.size + 2) (by omega)).trans hz))
          have BY15 := Lib.hid ((hb15.block w8.heap.size (by omega)).trans ((HB14.out.block w8.heap.size (by omega)).trans byr))
          have hz15 := hb15.size
          have HB15 := Lib.hid hb15
          obtain ⟨Y, hYd⟩ : ∃ Y, Y = y q := ⟨_, rfl⟩
          have hY8 : Y < 2 ^ 128 := by rw [hYd]; exact HY.out q
          have p0 : W15.drew.cell? ⟨w8.heap.size, q * 2, none⟩ = some (.int .u64 (hi Y)) := by rw [hYd]; exact blk_cell BY15.out (q * 2) _ (ptc_atA y q hq4).1
          have p1 : W15.drew.cell? ⟨w8.heap.size, q * 2 + 1, none⟩ = some (.int .u64 (lo Y)) := by rw [hYd]; exact blk_cell BY15.out (q * 2 + 1) _ (ptc_atA y q hq4).2
          have l0 : W15.drew.cell? ⟨wr.heap.size + 2, 0, none⟩ = some (.int .u64 (hi L)) := blk_cell BL15.out 0 _ rfl
          have l1 : W15.drew.cell? ⟨wr.heap.size + 2, 1, none⟩ = some (.int .u64 (lo L)) := blk_cell BL15.out 1 _ rfl
          have KX : Hid (∀ W, Calls Try.prog 8 #[.agg #[.int .u64 (hi Y), .int .u64 (lo Y)], .agg #[.int .u64 (hi L), .int .u64 (lo L)]] W (RetV (Y ^^^ L) W)) := Lib.hid fun W => rxor_any Y L hY8 hL8 W
          have HYD := Lib.hid hYd
          have HZ := Lib.hid (And.intro hz8 (And.intro hzy hzc))
          have hX8 : Y ^^^ L < 2 ^ 128 := Nat.xor_lt_two_pow hY8 hL8
          obtain ⟨X, hX⟩ : ∃ X, X = Y ^^^ L := ⟨_, rfl⟩
          rw [← hX] at KX hX8
          have HX := Lib.hid hX
          clear hz hz8 hzy hzc hYd bL15 hb15 byr hX
          go_wp2_with fail
          go_region_with (go_at_call 8; (with_reducible refine (KX.out _).mono ?_); rintro en w16 ⟨rfl, hv16⟩; have HB16 := Lib.hid ((Below.refl W15.heap.size W15).drew.trans hv16); have BQ16 := Lib.hid ((hv16.block (w8.heap.size + 2) (by show _ < W15.heap.size; omega)).trans BQ15.out); have e0 : w16.cell? ⟨w8.heap.size + 2, q * 2, none⟩ = some (.int .u64 (hi (z q))) := blk_cell BQ16.out (q * 2) _ (ptc_atA z q hq4).1; have e1 : w16.cell? ⟨w8.heap.size + 2, q * 2 + 1, none⟩ = some (.int .u64 (lo (z q))) := blk_cell BQ16.out (q * 2 + 1) _ (ptc_atA z q hq4).2; have f0 := blk_froz BQ16.out (q * 2); have f1 := blk_froz BQ16.out (q * 2 + 1); clear hv16)
          all_goals go_wp2_with fail
          all_goals
            have hbz : Below (w8.heap.size + 2) W11 w16 := HI.out.below.trans ((HB14.out.mono (by omega)).trans ((HB15.out.mono (by omega)).trans (HB16.out.mono (by omega))))
            have hsz := HB16.out.size
            refine ⟨⟨q + 1, by omega, by simp, Below.setCell (Below.setCell hbz (Nat.le_refl _) _) (Nat.le_refl _) _, by simp [World.setCell]; omega, (fun i => if i = q then X else z i), by rw [← ptc_set z q X hq4]; exact blk_set (blk_set BQ16.out _ _) _ _, fun i => ?_, fun i hi => ?_, fun i k' m' hi hk' hm' => ?_⟩, by simp [intOf]; omega⟩
            · show (if i = q then X else z i) < _
              split
              · exact hX8
              · exact HZ.out.1 i
            · show (if i = q then X else z i) = _
              rw [if_neg (by omega)]
              exact HZ.out.2.1 i (by omega)
            · show covM m' k'.kind (fbits x.fields k'.field) (y i) ↔ covM m' k'.kind (fbits x.fields k'.field) (if i = q then X else z i)
              by_cases h : i = q
              · subst h
                rw [HKK.out.1] at hk'
                rw [HKK.out.2] at hm'
                injection hk' with hk'
                injection hm' with hm'
                subst hk'
                subst hm'
                rw [if_pos rfl, HX.out, HYD.out, ← HF.out]
                exact HCV.out
              · rw [if_neg h]
                exact HZ.out.2.2 i k' m' (by omega) hk' hm'
      · obtain rfl : me = q := by omega
        obtain ⟨z, hz, hz8, hzy, hzc⟩ := hI.ex
        have bsr := (hI.below.block w4.heap.size (by omega)).trans BS11.out
        have htb : tblAt x.tables e.table = some t := by rw [HFIT.out.tab]; exact tab_self HOK.out.tables r t HT.out
        have hlen : e.ms.length = t.keys.length := HFIT.out.len
        have ht4 : t.keys.length ≤ 4 := by rw [← hnk.out]; exact hnk4
        obtain ⟨b, hb⟩ := some_bool (matE x.fields x.tables e (pt4 (y 0) (y 1) (y 2) (y 3)))
        have hbz : b = true ↔ matE x.fields x.tables e (pt4 (z 0) (z 1) (z 2) (z 3)) := by
          rw [hb, mat_iff htb hlen ht4, mat_iff htb hlen ht4]
          have hi4 : ∀ (i : Nat) (k : KeyD), t.keys[i]? = some k → i < 4 ∧ i < me := fun i k hk => by
            have h1 := (List.getElem?_eq_some_iff.1 hk).1
            have h2 := hnk.out
            omega
          constructor
          · intro h i k m hk hm
            obtain ⟨h4, hn⟩ := hi4 i k hk
            have := h i k m hk hm
            rw [pt4_of y i h4] at this
            rw [pt4_of z i h4]
            exact (hzc i k m hn hk hm).1 this
          · intro h i k m hk hm
            obtain ⟨h4, hn⟩ := hi4 i k hk
            have := h i k m hk hm
            rw [pt4_of z i h4] at this
            rw [pt4_of y i h4]
            exact (hzc i k m hn hk hm).2 this
        have hMf := (HM11.out.f.below kept_field (hI.below.mono (by omega))).up up_field (show w3.heap.size ≤ w8.heap.size by omega)
        have hMt := (HM11.out.t.below kept_table (hI.below.mono (by omega))).up up_table (show w3.heap.size ≤ w8.heap.size by omega)
        have hRr := HRM11.out.below kept_match (hI.below.mono (by omega))
        have hK : ∀ (p : Nat → Nat) (_ : ∀ i, p i < 2 ^ 128) (_ : b = true ↔ matE x.fields x.tables e (pt4 (p 0) (p 1) (p 2) (p 3))) (W : World), Below wr.heap.size wr W → Calls Try.prog 16 #[.agg #[.slice A0 n0 c0, .slice A1 n1 c1, .slice A2 n2 c2, .slice A3 n3 c3, .slice (some ⟨tb, tof, none⟩) n4 c4, .slice A5 n5 c5, .slice A6 n6 c6, .slice A7 n7 c7, .int .i64 x.maxBatch, .int .i64 x.budget], .agg #[.int .i64 e.table, .slice Ae me ce, .int .i64 e.prio, .int .i64 e.action, .slice Au nu cu], .agg #[.int .u64 (hi (p 0)), .int .u64 (lo (p 0)), .int .u64 (hi (p 1)), .int .u64 (lo (p 1)), .int .u64 (hi (p 2)), .int .u64 (lo (p 2)), .int .u64 (hi (p 3)), .int .u64 (lo (p 3))]] W (RetX (.bool b) W) := fun p hp hbp W hW => by
          have hbW := hW.mono (show w8.heap.size ≤ wr.heap.size by omega)
          exact g_Matches W w8.heap.size A0 n0 c0 x.fields (hMf.below kept_field hbW) _ n4 c4 x.tables (hMt.below kept_table hbW) (by have := hW.size; omega) (.slice A1 n1 c1) (.slice A2 n2 c2) (.slice A3 n3 c3) (.slice A5 n5 c5) (.slice A6 n6 c6) (.slice A7 n7 c7) (.int .i64 x.maxBatch) (.int .i64 x.budget) e _ me ce (.slice Au nu cu) (hRr.below kept_match hbW) (p 0) (p 1) (p 2) (p 3) (pt4_lt p hp) b hbp
        have K1 := Lib.hid (hK y HY.out hb)
        have K2 := Lib.hid (hK z hz8 hbz)
        have BSr := Lib.hid bsr
        have BEr := Lib.hid ber
        have BYr := Lib.hid byr
        have BZr := Lib.hid hz
        have HBr := Lib.hid (HB11.out.trans (hI.below.mono (by omega)))
        have hkI : ¬ (me : Int) < (me : Int) := by omega
        have hwl : w.heap.size ≤ wr.heap.size := by omega
        clear hK hMf hMt hRr hb hbz hlen htb ht4 hz hz8 hzy hzc hI bsr ber byr bvr
        have HKS : Hid (∀ w', Below wr.heap.size wr w' → Below wr.heap.size wr w' ∧ w'.cell? ⟨w4.heap.size, 0, none⟩ = some (.slice A0 n0 c0) ∧ w'.cell? ⟨w4.heap.size, 1, none⟩ = some (.slice A1 n1 c1) ∧ w'.cell? ⟨w4.heap.size, 2, none⟩ = some (.slice A2 n2 c2) ∧ w'.cell? ⟨w4.heap.size, 3, none⟩ = some (.slice A3 n3 c3) ∧ w'.cell? ⟨w4.heap.size, 4, none⟩ = some (.slice (some ⟨tb, tof, none⟩) n4 c4) ∧ w'.cell? ⟨w4.heap.size, 5, none⟩ = some (.slice A5 n5 c5) ∧ w'.cell? ⟨w4.heap.size, 6, none⟩ = some (.slice A6 n6 c6) ∧ w'.cell? ⟨w4.heap.size, 7, none⟩ = some (.slice A7 n7 c7) ∧ w'.cell? ⟨w4.heap.size, 8, none⟩ = some (.int .i64 x.maxBatch) ∧ w'.cell? ⟨w4.heap.size, 9, none⟩ = some (.int .i64 x.budget) ∧ w'.cell? ⟨w6.heap.size, 0, none⟩ = some (.int .i64 e.table) ∧ w'.cell? ⟨w6.heap.size, 1, none⟩ = some (.slice Ae me ce) ∧ w'.cell? ⟨w6.heap.size, 2, none⟩ = some (.int .i64 e.prio) ∧ w'.cell? ⟨w6.heap.size, 3, none⟩ = some (.int .i64 e.action) ∧ w'.cell? ⟨w6.heap.size, 4, none⟩ = some (.slice Au nu cu) ∧ w'.cell? ⟨w8.heap.size, 0, none⟩ = some (.int .u64 (hi (y 0))) ∧ w'.cell? ⟨w8.heap.size, 1, none⟩ = some (.int .u64 (lo (y 0))) ∧ w'.cell? ⟨w8.heap.size, 2, none⟩ = some (.int .u64 (hi (y 1))) ∧ w'.cell? ⟨w8.heap.size, 3, none⟩ = some (.int .u64 (lo (y 1))) ∧ w'.cell? ⟨w8.heap.size, 4, none⟩ = some (.int .u64 (hi (y 2))) ∧ w'.cell? ⟨w8.heap.size, 5, none⟩ = some (.int .u64 (lo (y 2))) ∧ w'.cell? ⟨w8.heap.size, 6, none⟩ = some (.int .u64 (hi (y 3))) ∧ w'.cell? ⟨w8.heap.size, 7, none⟩ = some (.int .u64 (lo (y 3))) ∧ w'.cell? ⟨w8.heap.size + 2, 0, none⟩ = some (.int .u64 (hi (z 0))) ∧ w'.cell? ⟨w8.heap.size + 2, 1, none⟩ = some (.int .u64 (lo (z 0))) ∧ w'.cell? ⟨w8.heap.size + 2, 2, none⟩ = some (.int .u64 (hi (z 1))) ∧ w'.cell? ⟨w8.heap.size + 2, 3, none⟩ = some (.int .u64 (lo (z 1))) ∧ w'.cell? ⟨w8.heap.size + 2, 4, none⟩ = some (.int .u64 (hi (z 2))) ∧ w'.cell? ⟨w8.heap.size + 2, 5, none⟩ = some (.int .u64 (lo (z 2))) ∧ w'.cell? ⟨w8.heap.size + 2, 6, none⟩ = some (.int .u64 (hi (z 3))) ∧ w'.cell? ⟨w8.heap.size + 2, 7, none⟩ = some (.int .u64 (lo (z 3)))) := Lib.hid fun w' hb => by
          have q0 := (hb.block (w4.heap.size) (by omega)).trans BSr.out
          have q1 := (hb.block (w6.heap.size) (by omega)).trans BEr.out
          have q2 := (hb.block (w8.heap.size) (by omega)).trans BYr.out
          have q3 := (hb.block (w8.heap.size + 2) (by omega)).trans BZr.out
          exact ⟨hb, blk_cell q0 0 _ rfl, blk_cell q0 1 _ rfl, blk_cell q0 2 _ rfl, blk_cell q0 3 _ rfl, blk_cell q0 4 _ rfl, blk_cell q0 5 _ rfl, blk_cell q0 6 _ rfl, blk_cell q0 7 _ rfl, blk_cell q0 8 _ rfl, blk_cell q0 9 _ rfl, blk_cell q1 0 _ rfl, blk_cell q1 1 _ rfl, blk_cell q1 2 _ rfl, blk_cell q1 3 _ rfl, blk_cell q1 4 _ rfl, blk_cell q2 0 _ rfl, blk_cell q2 1 _ rfl, blk_cell q2 2 _ rfl, blk_cell q2 3 _ rfl, blk_cell q2 4 _ rfl, blk_cell q2 5 _ rfl, blk_cell q2 6 _ rfl, blk_cell q2 7 _ rfl, blk_cell q3 0 _ rfl, blk_cell q3 1 _ rfl, blk_cell q3 2 _ rfl, blk_cell q3 3 _ rfl, blk_cell q3 4 _ rfl, blk_cell q3 5 _ rfl, blk_cell q3 6 _ rfl, blk_cell q3 7 _ rfl⟩
        go_wp2_with fail
        go_region_held3 (fun w' => Below wr.heap.size wr w' ∧ w'.cell? ⟨w4.heap.size, 0, none⟩ = some (.slice A0 n0 c0) ∧ w'.cell? ⟨w4.heap.size, 1, none⟩ = some (.slice A1 n1 c1) ∧ w'.cell? ⟨w4.heap.size, 2, none⟩ = some (.slice A2 n2 c2) ∧ w'.cell? ⟨w4.heap.size, 3, none⟩ = some (.slice A3 n3 c3) ∧ w'.cell? ⟨w4.heap.size, 4, none⟩ = some (.slice (some ⟨tb, tof, none⟩) n4 c4) ∧ w'.cell? ⟨w4.heap.size, 5, none⟩ = some (.slice A5 n5 c5) ∧ w'.cell? ⟨w4.heap.size, 6, none⟩ = some (.slice A6 n6 c6) ∧ w'.cell? ⟨w4.heap.size, 7, none⟩ = some (.slice A7 n7 c7) ∧ w'.cell? ⟨w4.heap.size, 8, none⟩ = some (.int .i64 x.maxBatch) ∧ w'.cell? ⟨w4.heap.size, 9, none⟩ = some (.int .i64 x.budget) ∧ w'.cell? ⟨w6.heap.size, 0, none⟩ = some (.int .i64 e.table) ∧ w'.cell? ⟨w6.heap.size, 1, none⟩ = some (.slice Ae me ce) ∧ w'.cell? ⟨w6.heap.size, 2, none⟩ = some (.int .i64 e.prio) ∧ w'.cell? ⟨w6.heap.size, 3, none⟩ = some (.int .i64 e.action) ∧ w'.cell? ⟨w6.heap.size, 4, none⟩ = some (.slice Au nu cu) ∧ w'.cell? ⟨w8.heap.size, 0, none⟩ = some (.int .u64 (hi (y 0))) ∧ w'.cell? ⟨w8.heap.size, 1, none⟩ = some (.int .u64 (lo (y 0))) ∧ w'.cell? ⟨w8.heap.size, 2, none⟩ = some (.int .u64 (hi (y 1))) ∧ w'.cell? ⟨w8.heap.size, 3, none⟩ = some (.int .u64 (lo (y 1))) ∧ w'.cell? ⟨w8.heap.size, 4, none⟩ = some (.int .u64 (hi (y 2))) ∧ w'.cell? ⟨w8.heap.size, 5, none⟩ = some (.int .u64 (lo (y 2))) ∧ w'.cell? ⟨w8.heap.size, 6, none⟩ = some (.int .u64 (hi (y 3))) ∧ w'.cell? ⟨w8.heap.size, 7, none⟩ = some (.int .u64 (lo (y 3))) ∧ w'.cell? ⟨w8.heap.size + 2, 0, none⟩ = some (.int .u64 (hi (z 0))) ∧ w'.cell? ⟨w8.heap.size + 2, 1, none⟩ = some (.int .u64 (lo (z 0))) ∧ w'.cell? ⟨w8.heap.size + 2, 2, none⟩ = some (.int .u64 (hi (z 1))) ∧ w'.cell? ⟨w8.heap.size + 2, 3, none⟩ = some (.int .u64 (lo (z 1))) ∧ w'.cell? ⟨w8.heap.size + 2, 4, none⟩ = some (.int .u64 (hi (z 2))) ∧ w'.cell? ⟨w8.heap.size + 2, 5, none⟩ = some (.int .u64 (lo (z 2))) ∧ w'.cell? ⟨w8.heap.size + 2, 6, none⟩ = some (.int .u64 (hi (z 3))) ∧ w'.cell? ⟨w8.heap.size + 2, 7, none⟩ = some (.int .u64 (lo (z 3))))
          (first
            | exact HKS.out _ (Below.drew (Below.refl _ _))
            | exact HKS.out _ (below_call (And.left (by assumption)) (by assumption))
            | exact HKS.out _ (below_alloc (And.left (by assumption)) _)
            | assumption)
          (first
            | (go_at_call 16; (with_reducible refine (K1.out _ (And.left (by assumption))).mono ?_); rintro en v1 ⟨rfl, hv1⟩)
            | (go_at_call 16; (with_reducible refine (K2.out _ (And.left (by assumption))).mono ?_); rintro en v2 ⟨rfl, hv2⟩)
            | (go_at_call 20; (with_reducible refine (g_begun _).mono ?_); rintro en v3 ⟨rfl, hv3⟩))
        all_goals go_wp2
        all_goals go_ret
        all_goals exact ⟨by first | rfl | simp, HBr.out.trans ((And.left (by assumption : Below wr.heap.size wr _ ∧ _)).mono hwl)⟩
end
end Go.Proofs.Ythakjhjfooeljaa
