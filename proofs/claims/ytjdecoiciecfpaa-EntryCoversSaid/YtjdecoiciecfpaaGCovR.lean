/- The reference's bits of keys, and Covers. -/
import Derived.Test.YtjdecoiciecfpaaGCov
import Derived.Test.YtjdecoiciecfpaaGRef
import Derived.Test.YtjdecoiciecfpaaCmp
namespace Go.Proofs.Ytjdecoiciecfpaa
open Go.RowKit

set_option maxRecDepth 100000 in
set_option maxHeartbeats 1000000 in
theorem g_rBits {w : World} {B : Nat} {A0 : Option Addr} {n0 c0 : Nat} {s1 s2 s3 s4 s5 s6 s7 : Value} {x : SchemaD} (h : SchM w B (.slice A0 n0 c0) s1 s2 s3 s4 s5 s6 s7 x) (hB : B ≤ w.heap.size) (s8 s9 : Value) (id : Int) (j : Nat) (f : FieldD) (hj : ixI id (x.fields.map (·.id)) 0 = ((j : Nat) : Int)) (hf : x.fields[j]? = some f) :
    Calls Try.prog 87 #[.agg #[.slice A0 n0 c0, s1, s2, s3, s4, s5, s6, s7, s8, s9], .int .i64 id] w (RetX (.int .i64 f.bits) w) := by
  obtain ⟨hn, hc, hm⟩ := h.f.len
  have hjl : j < x.fields.length := (List.getElem?_eq_some_iff.1 hf).1
  obtain ⟨fb, fo, e1, z, hzk, hfB, cs, hcs, hV⟩ := row_at h.f hjl
  obtain rfl : f = z := by rw [hzk] at hf; injection hf with hf; exact hf.symm
  obtain ⟨rfl, -⟩ := hV
  subst e1
  obtain ⟨W0, hW0⟩ : ∃ W, W = (w.alloc (.cells #[.slice (some ⟨fb, fo, none⟩) n0 c0, s1, s2, s3, s4, s5, s6, s7, s8, s9] 45)) := ⟨_, rfl⟩
  have hB0 : Below w.heap.size w W0 := by rw [hW0]; exact ((Below.refl w.heap.size w).alloc (by simp <;> omega) _)
  have hz0 : W0.heap.size = w.heap.size + 1 := by rw [hW0]; simp
  have b0_0 : W0.heap[w.heap.size]? = some (.cells #[.slice (some ⟨fb, fo, none⟩) n0 c0, s1, s2, s3, s4, s5, s6, s7, s8, s9] 45 (0, 0)) := by
    rw [hW0]
    exact heap_alloc_new _ _
  have KX : Hid (∀ W, Below W0.heap.size W0 W → Calls Try.prog 102 #[.agg #[.slice (some ⟨fb, fo, none⟩) n0 c0, s1, s2, s3, s4, s5, s6, s7, s8, s9], .int .i64 id] W (RetX (.int .i64 (j : Int)) W)) := Lib.hid fun W hb => by
    rw [← hj]
    exact g_rFieldOf (h.below ((hB0.trans (hb.mono hB0.size)).mono hB)) (Nat.le_trans hB (Nat.le_trans hB0.size hb.size)) s8 s9 id
  have HCS := Lib.hid hcs
  have HKS : Hid (∀ w', Below W0.heap.size W0 w' → Below W0.heap.size W0 w' ∧ w'.cell? ⟨w.heap.size, 0, none⟩ = some (.slice (some ⟨fb, fo, none⟩) n0 c0) ∧ w'.cell? ⟨w.heap.size, 1, none⟩ = some (s1) ∧ w'.cell? ⟨w.heap.size, 2, none⟩ = some (s2) ∧ w'.cell? ⟨w.heap.size, 3, none⟩ = some (s3) ∧ w'.cell? ⟨w.heap.size, 4, none⟩ = some (s4) ∧ w'.cell? ⟨w.heap.size, 5, none⟩ = some (s5) ∧ w'.cell? ⟨w.heap.size, 6, none⟩ = some (s6) ∧ w'.cell? ⟨w.heap.size, 7, none⟩ = some (s7) ∧ w'.cell? ⟨w.heap.size, 8, none⟩ = some (s8) ∧ w'.cell? ⟨w.heap.size, 9, none⟩ = some (s9) ∧ w'.cell? ⟨fb, fo + j * 3 + 2, none⟩ = some (.int .i64 f.bits)) := Lib.hid fun w' hb => by
    have q0 := (hb.block w.heap.size (by omega)).trans b0_0
    refine ⟨hb, blk_cell q0 0 _ rfl, blk_cell q0 1 _ rfl, blk_cell q0 2 _ rfl, blk_cell q0 3 _ rfl, blk_cell q0 4 _ rfl, blk_cell q0 5 _ rfl, blk_cell q0 6 _ rfl, blk_cell q0 7 _ rfl, blk_cell q0 8 _ rfl, blk_cell q0 9 _ rfl, ?_⟩
    have hb' := hB0.trans (hb.mono hB0.size)
    rw [hb'.cell (p := ⟨fb, fo + j * 3 + 2, none⟩) (show fb < w.heap.size by omega)]
    exact HCS.out.at 2 _ rfl
  have hj0 : 0 ≤ (j : Int) := by omega
  have hj1 : (j : Int) < (n0 : Int) := by rw [hn.out]; omega
  have hj2 : (j : Int) < (c0 : Int) := by omega
  have HB0 := Lib.hid hB0
  have HW0 := Lib.hid hW0
  clear h hf hj hzk hcs hB0 hW0 b0_0
  go_enter Try.func87, Try.ntmps87
  go_upto_region 1 with fail
  rw [← HW0.out]
  go_region_held3 (fun w' => Below W0.heap.size W0 w' ∧ w'.cell? ⟨w.heap.size, 0, none⟩ = some (.slice (some ⟨fb, fo, none⟩) n0 c0) ∧ w'.cell? ⟨w.heap.size, 1, none⟩ = some (s1) ∧ w'.cell? ⟨w.heap.size, 2, none⟩ = some (s2) ∧ w'.cell? ⟨w.heap.size, 3, none⟩ = some (s3) ∧ w'.cell? ⟨w.heap.size, 4, none⟩ = some (s4) ∧ w'.cell? ⟨w.heap.size, 5, none⟩ = some (s5) ∧ w'.cell? ⟨w.heap.size, 6, none⟩ = some (s6) ∧ w'.cell? ⟨w.heap.size, 7, none⟩ = some (s7) ∧ w'.cell? ⟨w.heap.size, 8, none⟩ = some (s8) ∧ w'.cell? ⟨w.heap.size, 9, none⟩ = some (s9) ∧ w'.cell? ⟨fb, fo + j * 3 + 2, none⟩ = some (.int .i64 f.bits))
    (first
      | exact HKS.out _ (Below.drew (Below.refl _ _))
      | exact HKS.out _ (below_call (And.left (by assumption)) (by assumption))
      | assumption)
    (first
      | (go_at_call 102; (with_reducible refine (KX.out _ (And.left (by assumption))).mono ?_); rintro en v1 ⟨rfl, hv1⟩))
  all_goals go_wp2
  all_goals go_ret
  all_goals exact ⟨rfl, HB0.out.trans ((And.left (by assumption : Below W0.heap.size W0 _ ∧ _)).mono HB0.out.size)⟩
set_option maxRecDepth 100000 in
set_option maxHeartbeats 1000000 in
theorem g_rKeyBits {w : World} {B : Nat} {A0 : Option Addr} {n0 c0 : Nat} {s1 s2 s3 s4 s5 s6 s7 : Value} {x : SchemaD} (h : SchM w B (.slice A0 n0 c0) s1 s2 s3 s4 s5 s6 s7 x) (hB : B ≤ w.heap.size) (s8 s9 : Value) (t0 t1 t3 t4 t5 t6 t7 : Value) (Ak : Option Addr) (nk ck : Nat) (ks : List KeyD) (hk : RowV 3 KeyV B w (.slice Ak nk ck) ks) (q : Nat) (k : KeyD) (hq : ks[q]? = some k) (j : Nat) (f : FieldD) (hj : ixI k.field (x.fields.map (·.id)) 0 = ((j : Nat) : Int)) (hf : x.fields[j]? = some f) :
    Calls Try.prog 59 #[.agg #[.slice A0 n0 c0, s1, s2, s3, s4, s5, s6, s7, s8, s9], .agg #[t0, t1, .slice Ak nk ck, t3, t4, t5, t6, t7], .int .i64 (q : Int)] w (RetX (.int .i64 f.bits) w) := by
  obtain ⟨hn, hc, hm⟩ := hk.len
  have hql : q < ks.length := (List.getElem?_eq_some_iff.1 hq).1
  obtain ⟨kb, ko, e1, z, hzk, hkB, cs, hcs, hV⟩ := row_at hk hql
  obtain rfl : k = z := by rw [hzk] at hq; injection hq with hq; exact hq.symm
  obtain ⟨rfl, -⟩ := hV
  subst e1
  obtain ⟨W0, hW0⟩ : ∃ W, W = ((w.alloc (.cells #[.slice A0 n0 c0, s1, s2, s3, s4, s5, s6, s7, s8, s9] 45)).alloc (.cells #[t0, t1, .slice (some ⟨kb, ko, none⟩) nk ck, t3, t4, t5, t6, t7] 111)) := ⟨_, rfl⟩
  have hB0 : Below w.heap.size w W0 := by rw [hW0]; exact (((Below.refl w.heap.size w).alloc (by simp <;> omega) _).alloc (by simp <;> omega) _)
  have hz0 : W0.heap.size = w.heap.size + 2 := by rw [hW0]; simp
  have b0_0 : W0.heap[w.heap.size]? = some (.cells #[.slice A0 n0 c0, s1, s2, s3, s4, s5, s6, s7, s8, s9] 45 (0, 0)) := by
    rw [hW0]
    exact (((Below.refl (w.alloc (.cells #[.slice A0 n0 c0, s1, s2, s3, s4, s5, s6, s7, s8, s9] 45)).heap.size (w.alloc (.cells #[.slice A0 n0 c0, s1, s2, s3, s4, s5, s6, s7, s8, s9] 45))).alloc (by simp <;> omega) _).block w.heap.size (by simp)).trans (heap_alloc_new _ _)
  have b0_1 : W0.heap[w.heap.size + 1]? = some (.cells #[t0, t1, .slice (some ⟨kb, ko, none⟩) nk ck, t3, t4, t5, t6, t7] 111 (0, 0)) := by
    rw [hW0]
    rw [show w.heap.size + 1 = (w.alloc (.cells #[.slice A0 n0 c0, s1, s2, s3, s4, s5, s6, s7, s8, s9] 45)).heap.size by simp]
    exact heap_alloc_new _ _
  have KX : Hid (∀ W, Below W0.heap.size W0 W → Calls Try.prog 87 #[.agg #[.slice A0 n0 c0, s1, s2, s3, s4, s5, s6, s7, s8, s9], .int .i64 k.field] W (RetX (.int .i64 f.bits) W)) := Lib.hid fun W hb =>
    g_rBits (h.below ((hB0.trans (hb.mono hB0.size)).mono hB)) (Nat.le_trans hB (Nat.le_trans hB0.size hb.size)) s8 s9 k.field j f hj hf
  have HCS := Lib.hid hcs
  have HKS : Hid (∀ w', Below W0.heap.size W0 w' → Below W0.heap.size W0 w' ∧ w'.cell? ⟨w.heap.size, 0, none⟩ = some (.slice A0 n0 c0) ∧ w'.cell? ⟨w.heap.size, 1, none⟩ = some (s1) ∧ w'.cell? ⟨w.heap.size, 2, none⟩ = some (s2) ∧ w'.cell? ⟨w.heap.size, 3, none⟩ = some (s3) ∧ w'.cell? ⟨w.heap.size, 4, none⟩ = some (s4) ∧ w'.cell? ⟨w.heap.size, 5, none⟩ = some (s5) ∧ w'.cell? ⟨w.heap.size, 6, none⟩ = some (s6) ∧ w'.cell? ⟨w.heap.size, 7, none⟩ = some (s7) ∧ w'.cell? ⟨w.heap.size, 8, none⟩ = some (s8) ∧ w'.cell? ⟨w.heap.size, 9, none⟩ = some (s9) ∧ w'.cell? ⟨w.heap.size + 1, 0, none⟩ = some (t0) ∧ w'.cell? ⟨w.heap.size + 1, 1, none⟩ = some (t1) ∧ w'.cell? ⟨w.heap.size + 1, 2, none⟩ = some (.slice (some ⟨kb, ko, none⟩) nk ck) ∧ w'.cell? ⟨w.heap.size + 1, 3, none⟩ = some (t3) ∧ w'.cell? ⟨w.heap.size + 1, 4, none⟩ = some (t4) ∧ w'.cell? ⟨w.heap.size + 1, 5, none⟩ = some (t5) ∧ w'.cell? ⟨w.heap.size + 1, 6, none⟩ = some (t6) ∧ w'.cell? ⟨w.heap.size + 1, 7, none⟩ = some (t7) ∧ w'.cell? ⟨kb, ko + q * 3 + 1, none⟩ = some (.int .i64 k.field)) := Lib.hid fun w' hb => by
    have q0 := (hb.block w.heap.size (by omega)).trans b0_0
    have q1 := (hb.block (w.heap.size + 1) (by omega)).trans b0_1
    refine ⟨hb, blk_cell q0 0 _ rfl, blk_cell q0 1 _ rfl, blk_cell q0 2 _ rfl, blk_cell q0 3 _ rfl, blk_cell q0 4 _ rfl, blk_cell q0 5 _ rfl, blk_cell q0 6 _ rfl, blk_cell q0 7 _ rfl, blk_cell q0 8 _ rfl, blk_cell q0 9 _ rfl, blk_cell q1 0 _ rfl, blk_cell q1 1 _ rfl, blk_cell q1 2 _ rfl, blk_cell q1 3 _ rfl, blk_cell q1 4 _ rfl, blk_cell q1 5 _ rfl, blk_cell q1 6 _ rfl, blk_cell q1 7 _ rfl, ?_⟩
    have hb' := hB0.trans (hb.mono hB0.size)
    rw [hb'.cell (p := ⟨kb, ko + q * 3 + 1, none⟩) (show kb < w.heap.size by omega)]
    exact HCS.out.at 1 _ rfl
  have hj0 : 0 ≤ (q : Int) := by omega
  have hj1 : (q : Int) < (nk : Int) := by rw [hn.out]; omega
  have hj2 : (q : Int) < (ck : Int) := by omega
  have HB0 := Lib.hid hB0
  have HW0 := Lib.hid hW0
  clear h hf hj hk hq hzk hcs hB0 hW0 b0_0 b0_1
  go_enter Try.func59, Try.ntmps59
  go_upto_region 1 with fail
  rw [← HW0.out]
  go_region_held3 (fun w' => Below W0.heap.size W0 w' ∧ w'.cell? ⟨w.heap.size, 0, none⟩ = some (.slice A0 n0 c0) ∧ w'.cell? ⟨w.heap.size, 1, none⟩ = some (s1) ∧ w'.cell? ⟨w.heap.size, 2, none⟩ = some (s2) ∧ w'.cell? ⟨w.heap.size, 3, none⟩ = some (s3) ∧ w'.cell? ⟨w.heap.size, 4, none⟩ = some (s4) ∧ w'.cell? ⟨w.heap.size, 5, none⟩ = some (s5) ∧ w'.cell? ⟨w.heap.size, 6, none⟩ = some (s6) ∧ w'.cell? ⟨w.heap.size, 7, none⟩ = some (s7) ∧ w'.cell? ⟨w.heap.size, 8, none⟩ = some (s8) ∧ w'.cell? ⟨w.heap.size, 9, none⟩ = some (s9) ∧ w'.cell? ⟨w.heap.size + 1, 0, none⟩ = some (t0) ∧ w'.cell? ⟨w.heap.size + 1, 1, none⟩ = some (t1) ∧ w'.cell? ⟨w.heap.size + 1, 2, none⟩ = some (.slice (some ⟨kb, ko, none⟩) nk ck) ∧ w'.cell? ⟨w.heap.size + 1, 3, none⟩ = some (t3) ∧ w'.cell? ⟨w.heap.size + 1, 4, none⟩ = some (t4) ∧ w'.cell? ⟨w.heap.size + 1, 5, none⟩ = some (t5) ∧ w'.cell? ⟨w.heap.size + 1, 6, none⟩ = some (t6) ∧ w'.cell? ⟨w.heap.size + 1, 7, none⟩ = some (t7) ∧ w'.cell? ⟨kb, ko + q * 3 + 1, none⟩ = some (.int .i64 k.field))
    (first
      | exact HKS.out _ (Below.drew (Below.refl _ _))
      | exact HKS.out _ (below_call (And.left (by assumption)) (by assumption))
      | assumption)
    (first
      | (go_at_call 87; (with_reducible refine (KX.out _ (And.left (by assumption))).mono ?_); rintro en v1 ⟨rfl, hv1⟩))
  all_goals go_wp2
  all_goals go_ret
  all_goals exact ⟨rfl, HB0.out.trans ((And.left (by assumption : Below W0.heap.size W0 _ ∧ _)).mono HB0.out.size)⟩
theorem ones_bitR (k : Int) (i : Nat) : (ones k).testBit i = decide (i < cl k) := by
  unfold ones
  rw [Nat.testBit_two_pow_sub_one]
theorem lead_bitR (b n : Int) (h0 : 0 ≤ b) (h1 : b ≤ 128) (i : Nat) : (lead b n).testBit i = decide (b - n ≤ (i : Int) ∧ (i : Int) < b) := by
  unfold lead
  rw [Nat.testBit_xor, ones_bitR, ones_bitR]
  have e1 : cl (min (max b 0) 128) = b.toNat := by unfold cl; omega
  have e2 : cl (min (max b 0) 128 - min (max n 0) (min (max b 0) 128)) = (b - min (max n 0) b).toNat := by unfold cl; omega
  rw [e1, e2]
  by_cases h2 : (i : Int) < b
  · rw [decide_eq_true (show i < b.toNat by omega)]
    by_cases h3 : b - n ≤ (i : Int)
    · rw [decide_eq_false (show ¬ i < (b - min (max n 0) b).toNat by omega), decide_eq_true ⟨h3, h2⟩]; rfl
    · rw [decide_eq_true (show i < (b - min (max n 0) b).toNat by omega), decide_eq_false (fun h => h3 h.1)]; rfl
  · rw [decide_eq_false (show ¬ i < b.toNat by omega), decide_eq_false (show ¬ i < (b - min (max n 0) b).toNat by omega), decide_eq_false (fun h => h2 h.2)]; rfl
theorem lpm_bits (b n : Int) (h0 : 0 ≤ b) (h1 : b ≤ 128) (x y : Nat) : x &&& lead b n = y &&& lead b n ↔ ∀ i : Nat, b - n ≤ (i : Int) → (i : Int) < b → x.testBit i = y.testBit i := by
  constructor
  · intro h i hi hb
    have h2 : (x &&& lead b n).testBit i = (y &&& lead b n).testBit i := by rw [h]
    rw [Nat.testBit_and, Nat.testBit_and, lead_bitR b n h0 h1, decide_eq_true ⟨hi, hb⟩] at h2
    simpa using h2
  · intro h
    apply Nat.eq_of_testBit_eq
    intro i
    rw [Nat.testBit_and, Nat.testBit_and, lead_bitR b n h0 h1]
    by_cases hc : b - n ≤ (i : Int) ∧ (i : Int) < b
    · rw [h i hc.1 hc.2]
    · rw [decide_eq_false hc]; simp
set_option maxRecDepth 100000 in
set_option maxHeartbeats 1000000 in
theorem g_rCovers (m : MatchD) (hm : MatchOk m) (kd b : Int) (hb0 : 0 ≤ b) (hb1 : b ≤ 128) (hp0 : -1000 ≤ m.pre) (hp1 : m.pre ≤ 1000) (v : Nat) (hv : v < 2 ^ 128) (w : World) : Calls Try.prog 12 #[.agg #[.bool m.pres, .int .u64 (hi m.val), .int .u64 (lo m.val), .int .u64 (hi m.mask), .int .u64 (lo m.mask), .int .i64 m.pre, .int .u64 (hi m.high), .int .u64 (lo m.high)], .int .i64 kd, .int .i64 b, .agg #[.int .u64 (hi v), .int .u64 (lo v)]] w (RetX (.bool (decide (covM m kd b v))) w) := by
  obtain ⟨r, hr⟩ := some_bool (covM m kd b v)
  rw [dec_of hr]
  have HM := Lib.hid hm
  have HV := Lib.hid hv
  clear hm
  obtain ⟨W0, hW0⟩ : ∃ W, W = ((w.alloc (.cells #[.bool m.pres, .int .u64 (hi m.val), .int .u64 (lo m.val), .int .u64 (hi m.mask), .int .u64 (lo m.mask), .int .i64 m.pre, .int .u64 (hi m.high), .int .u64 (lo m.high)] 27)).alloc (.cells #[.int .u64 (hi v), .int .u64 (lo v)] 25)) := ⟨_, rfl⟩
  have hB0 : Below w.heap.size w W0 := by rw [hW0]; exact (((Below.refl w.heap.size w).alloc (by simp <;> omega) _).alloc (by simp <;> omega) _)
  have hz0 : W0.heap.size = w.heap.size + 2 := by rw [hW0]; simp
  have b0_0 : W0.heap[w.heap.size]? = some (.cells #[.bool m.pres, .int .u64 (hi m.val), .int .u64 (lo m.val), .int .u64 (hi m.mask), .int .u64 (lo m.mask), .int .i64 m.pre, .int .u64 (hi m.high), .int .u64 (lo m.high)] 27 (0, 0)) := by
    rw [hW0]
    exact (((Below.refl (w.alloc (.cells #[.bool m.pres, .int .u64 (hi m.val), .int .u64 (lo m.val), .int .u64 (hi m.mask), .int .u64 (lo m.mask), .int .i64 m.pre, .int .u64 (hi m.high), .int .u64 (lo m.high)] 27)).heap.size (w.alloc (.cells #[.bool m.pres, .int .u64 (hi m.val), .int .u64 (lo m.val), .int .u64 (hi m.mask), .int .u64 (lo m.mask), .int .i64 m.pre, .int .u64 (hi m.high), .int .u64 (lo m.high)] 27))).alloc (by simp <;> omega) _).block w.heap.size (by simp)).trans (heap_alloc_new _ _)
  have b0_1 : W0.heap[w.heap.size + 1]? = some (.cells #[.int .u64 (hi v), .int .u64 (lo v)] 25 (0, 0)) := by
    rw [hW0]
    rw [show w.heap.size + 1 = (w.alloc (.cells #[.bool m.pres, .int .u64 (hi m.val), .int .u64 (lo m.val), .int .u64 (hi m.mask), .int .u64 (lo m.mask), .int .i64 m.pre, .int .u64 (hi m.high), .int .u64 (lo m.high)] 27)).heap.size by simp]
    exact heap_alloc_new _ _
  have HB0 := Lib.hid hB0
  have HW0 := Lib.hid hW0
  have BB0 := Lib.hid b0_0
  have BB1 := Lib.hid b0_1
  have hG := eqG_val
  clear hB0 hW0 b0_0 b0_1
  rcases (Bool.eq_false_or_eq_true m.pres).symm with hp | hp
  · have HR := Lib.hid hr
    have c0 : W0.cell? ⟨w.heap.size, 0, none⟩ = some (.bool false) := by rw [← hp]; exact blk_cell BB0.out 0 _ rfl
    have hE : covM m kd b v ↔ 1 ≤ kd ∧ kd ≤ 4 := by
      constructor
      · intro h
        refine Decidable.byContradiction fun hc => ?_
        unfold covM at h
        rw [if_neg (by omega), if_neg (by omega), if_neg (by omega), if_neg (by omega)] at h
        exact h
      · intro h
        have : kd = 1 ∨ kd = 2 ∨ kd = 3 ∨ kd = 4 := by omega
        rcases this with rfl | rfl | rfl | rfl
        · exact (cov1 _ _ _).2 fun e => by rw [hp] at e; cases e
        · exact (cov2 _ _ _).2 fun e => by rw [hp] at e; cases e
        · exact (cov3 _ _ _).2 fun e => by rw [hp] at e; cases e
        · exact (cov4 _ _ _).2 fun e => by rw [hp] at e; cases e
    have HD := Lib.hid (hr.trans hE)
    clear hE hr hp HR
    by_cases h1 : 1 ≤ kd
    · obtain rfl : r = decide (kd ≤ 4) := (dec_of (HD.out.trans ⟨fun h => h.2, fun h => ⟨h1, h⟩⟩)).symm
      clear HD
      go_enter Try.func12, Try.ntmps12
      go_upto_region 1 with fail
      rw [← HW0.out]
      go_wp2_with fail
      go_ret
      exact ⟨by first | rfl | simp, HB0.out⟩
    · obtain rfl : r = false := bool_no HD.out (fun h => h1 h.1)
      clear HD
      go_enter Try.func12, Try.ntmps12
      go_upto_region 1 with fail
      rw [← HW0.out]
      go_wp2_with fail
      go_ret
      exact ⟨rfl, HB0.out⟩
  · have HP := Lib.hid hp
    by_cases h1 : kd = 1
    · subst h1
      have HR := Lib.hid (hr.trans ((cov1 m b v).trans ⟨fun h => h hp, fun h _ => h⟩))
      have hq : ∀ W : World, (Op.equalIn 10000 25 (.agg #[.int .u64 (hi v), .int .u64 (lo v)]) (.agg #[.int .u64 (hi m.val), .int .u64 (lo m.val)])).run Try.prog W = .ok r W := fun W => eqd_val v m.val (Lib.hid HV.out) (Lib.hid HM.out.1) r HR.out W
      clear hp hr
      have c0 : W0.cell? ⟨w.heap.size, 0, none⟩ = some (.bool true) := by rw [← HP.out]; exact blk_cell BB0.out 0 _ rfl
      have c1 : W0.cell? ⟨w.heap.size, 1, none⟩ = some (.int .u64 (hi m.val)) := blk_cell BB0.out 1 _ rfl
      have c2 : W0.cell? ⟨w.heap.size, 2, none⟩ = some (.int .u64 (lo m.val)) := blk_cell BB0.out 2 _ rfl
      have c3 : W0.cell? ⟨w.heap.size, 3, none⟩ = some (.int .u64 (hi m.mask)) := blk_cell BB0.out 3 _ rfl
      have c4 : W0.cell? ⟨w.heap.size, 4, none⟩ = some (.int .u64 (lo m.mask)) := blk_cell BB0.out 4 _ rfl
      have c5 : W0.cell? ⟨w.heap.size, 5, none⟩ = some (.int .i64 m.pre) := blk_cell BB0.out 5 _ rfl
      have c6 : W0.cell? ⟨w.heap.size, 6, none⟩ = some (.int .u64 (hi m.high)) := blk_cell BB0.out 6 _ rfl
      have c7 : W0.cell? ⟨w.heap.size, 7, none⟩ = some (.int .u64 (lo m.high)) := blk_cell BB0.out 7 _ rfl
      have v0 : W0.cell? ⟨w.heap.size + 1, 0, none⟩ = some (.int .u64 (hi v)) := blk_cell BB1.out 0 _ rfl
      have v1 : W0.cell? ⟨w.heap.size + 1, 1, none⟩ = some (.int .u64 (lo v)) := blk_cell BB1.out 1 _ rfl
      go_enter Try.func12, Try.ntmps12
      go_upto_region 1 with fail
      rw [← HW0.out]
      go_wp2_with fail
      go_ret
      exact ⟨by first | rfl | simp, HB0.out⟩
    by_cases h2 : kd = 2
    · subst h2
      have HR := Lib.hid (hr.trans ((cov2 m b v).trans (Iff.trans ⟨fun h => h hp, fun h _ => h⟩ (lpm_bits b m.pre hb0 hb1 v m.val))))
      have hwr : IntKind.i64.wrap (b - m.pre) = b - m.pre := IntWalk.i64_in _ (by omega)
      clear hp hr
      have c0 : W0.cell? ⟨w.heap.size, 0, none⟩ = some (.bool true) := by rw [← HP.out]; exact blk_cell BB0.out 0 _ rfl
      have c1 : W0.cell? ⟨w.heap.size, 1, none⟩ = some (.int .u64 (hi m.val)) := blk_cell BB0.out 1 _ rfl
      have c2 : W0.cell? ⟨w.heap.size, 2, none⟩ = some (.int .u64 (lo m.val)) := blk_cell BB0.out 2 _ rfl
      have c3 : W0.cell? ⟨w.heap.size, 3, none⟩ = some (.int .u64 (hi m.mask)) := blk_cell BB0.out 3 _ rfl
      have c4 : W0.cell? ⟨w.heap.size, 4, none⟩ = some (.int .u64 (lo m.mask)) := blk_cell BB0.out 4 _ rfl
      have c5 : W0.cell? ⟨w.heap.size, 5, none⟩ = some (.int .i64 m.pre) := blk_cell BB0.out 5 _ rfl
      have c6 : W0.cell? ⟨w.heap.size, 6, none⟩ = some (.int .u64 (hi m.high)) := blk_cell BB0.out 6 _ rfl
      have c7 : W0.cell? ⟨w.heap.size, 7, none⟩ = some (.int .u64 (lo m.high)) := blk_cell BB0.out 7 _ rfl
      have v0 : W0.cell? ⟨w.heap.size + 1, 0, none⟩ = some (.int .u64 (hi v)) := blk_cell BB1.out 0 _ rfl
      have v1 : W0.cell? ⟨w.heap.size + 1, 1, none⟩ = some (.int .u64 (lo v)) := blk_cell BB1.out 1 _ rfl
      have HKS : Hid (∀ w', Below W0.heap.size W0 w' → Below W0.heap.size W0 w' ∧ w'.cell? ⟨w.heap.size, 0, none⟩ = some (.bool true) ∧ w'.cell? ⟨w.heap.size, 1, none⟩ = some (.int .u64 (hi m.val)) ∧ w'.cell? ⟨w.heap.size, 2, none⟩ = some (.int .u64 (lo m.val)) ∧ w'.cell? ⟨w.heap.size, 3, none⟩ = some (.int .u64 (hi m.mask)) ∧ w'.cell? ⟨w.heap.size, 4, none⟩ = some (.int .u64 (lo m.mask)) ∧ w'.cell? ⟨w.heap.size, 5, none⟩ = some (.int .i64 m.pre) ∧ w'.cell? ⟨w.heap.size, 6, none⟩ = some (.int .u64 (hi m.high)) ∧ w'.cell? ⟨w.heap.size, 7, none⟩ = some (.int .u64 (lo m.high)) ∧ w'.cell? ⟨w.heap.size + 1, 0, none⟩ = some (.int .u64 (hi v)) ∧ w'.cell? ⟨w.heap.size + 1, 1, none⟩ = some (.int .u64 (lo v))) := Lib.hid fun w' hb => by
        have q0 := (hb.block (w.heap.size) (by omega)).trans BB0.out
        have q1 := (hb.block (w.heap.size + 1) (by omega)).trans BB1.out
        exact ⟨hb, (by rw [← HP.out]; exact blk_cell q0 0 _ rfl), blk_cell q0 1 _ rfl, blk_cell q0 2 _ rfl, blk_cell q0 3 _ rfl, blk_cell q0 4 _ rfl, blk_cell q0 5 _ rfl, blk_cell q0 6 _ rfl, blk_cell q0 7 _ rfl, blk_cell q1 0 _ rfl, blk_cell q1 1 _ rfl⟩
      go_enter Try.func12, Try.ntmps12
      go_upto_region 1 with fail
      rw [← HW0.out]
      go_upto_region 7 with fail
      go_cut [9, 10] (fun x y wx => ∃ bx b', x = .pointer (some ⟨bx, 0, none⟩) ∧ y = .pointer (some ⟨b', 0, none⟩) ∧ PairAt w v.testBit m.val.testBit bx b' wx ∧ Below W0.heap.size W0 wx)
      case first =>
        clear hz0
        have bl := HB0.out
        have hinfo := info_bits
        have hlen := bitsL_len
        have o1 := bitsL_one v.testBit
        have o2 := bitsL_one m.val.testBit
        have hset : ∀ (W : World) (x y : Nat) (vs : List Value), W.there x 0 128 → (W.setCells y 0 vs).there x 0 128 := fun W x y vs h => World.there_setCells h y 0 vs
        have hnew : ∀ W : World, (W.alloc (.cells (bitsA fun _ => false) 88)).there W.heap.size 0 128 := fun W => (BitsAt.new W _ _).there
        have hal : ∀ (W : World) (x : Nat) (o : Obj), W.there x 0 128 → (W.alloc o).there x 0 128 := fun W x o h => there_below ((Below.refl _ _).alloc (Nat.le_refl _) _) h
        have hnew1 : ∀ (W : World) (o : Obj), ((W.alloc (.cells (bitsA fun _ => false) 88)).alloc o).there W.heap.size 0 128 := fun W o => hal _ _ _ (hnew W)
        have hnew2 : ∀ (W : World) (o : Obj), ((W.alloc o).alloc (.cells (bitsA fun _ => false) 88)).there (W.heap.size + 1) 0 128 := fun W o => by have := hnew (W.alloc o); rwa [sz_alloc] at this
        have hal2 : ∀ (W : World) (x : Nat) (o o' : Obj), W.there x 0 128 → ((W.alloc o).alloc o').there x 0 128 := fun W x o o' h => hal _ _ _ (hal _ _ _ h)
        have hsal : ∀ (W : World) (x y : Nat) (o : Obj) (vs : List Value), W.there x 0 128 → ((W.alloc o).setCells y 0 vs).there x 0 128 := fun W x y o vs h => hset _ _ _ _ (hal _ _ _ h)
        have hsnew : ∀ (W : World) (y : Nat) (vs : List Value), ((W.alloc (.cells (bitsA fun _ => false) 88)).setCells y 0 vs).there W.heap.size 0 128 := fun W y vs => hset _ _ _ _ (hnew W)
        have hsnew1 : ∀ (W : World) (y : Nat) (o : Obj) (vs : List Value), (((W.alloc (.cells (bitsA fun _ => false) 88)).alloc o).setCells y 0 vs).there W.heap.size 0 128 := fun W y o vs => hset _ _ _ _ (hnew1 W o)
        have hsnew2 : ∀ (W : World) (y : Nat) (o : Obj) (vs : List Value), (((W.alloc o).alloc (.cells (bitsA fun _ => false) 88)).setCells y 0 vs).there (W.heap.size + 1) 0 128 := fun W y o vs => hset _ _ _ _ (hnew2 W o)
        go_region_held3 (fun w' => Below W0.heap.size W0 w' ∧ w'.cell? ⟨w.heap.size, 0, none⟩ = some (.bool true) ∧ w'.cell? ⟨w.heap.size, 1, none⟩ = some (.int .u64 (hi m.val)) ∧ w'.cell? ⟨w.heap.size, 2, none⟩ = some (.int .u64 (lo m.val)) ∧ w'.cell? ⟨w.heap.size, 3, none⟩ = some (.int .u64 (hi m.mask)) ∧ w'.cell? ⟨w.heap.size, 4, none⟩ = some (.int .u64 (lo m.mask)) ∧ w'.cell? ⟨w.heap.size, 5, none⟩ = some (.int .i64 m.pre) ∧ w'.cell? ⟨w.heap.size, 6, none⟩ = some (.int .u64 (hi m.high)) ∧ w'.cell? ⟨w.heap.size, 7, none⟩ = some (.int .u64 (lo m.high)) ∧ w'.cell? ⟨w.heap.size + 1, 0, none⟩ = some (.int .u64 (hi v)) ∧ w'.cell? ⟨w.heap.size + 1, 1, none⟩ = some (.int .u64 (lo v)))
          (first
            | exact HKS.out _ (Below.drew (Below.refl _ _))
            | exact HKS.out _ (below_call (And.left (by assumption)) (by assumption))
            | exact HKS.out _ (below_alloc (And.left (by assumption)) _)
            | exact HKS.out _ (Below.setCells (And.left (by assumption)) (by first | assumption | omega) _ _))
          (first
            | (go_at_call 41; (have _zz := tb1); refine (read_any _ _).mono ?_; rintro e w2 ⟨rfl, hx2⟩; have tb2 := fun x => there_below (b := x) (n := 128) hx2; have sz2 := hx2.size; (try simp only [sz_alloc] at sz2); (try have p20 : w2.there W0.heap.size 0 128 := tb2 _ (by first | exact p10 | exact hal _ _ _ p10 | exact hal _ _ _ (hal _ _ _ p10))); (try have p21 : w2.there (W0.heap.size + 1) 0 128 := tb2 _ p11); (try have p22 : w2.there w1.heap.size 0 128 := tb2 _ (by first | exact hnew _ | exact hnew1 _ _)); (try have p23 : w2.there (w1.heap.size + 1) 0 128 := tb2 _ (hnew2 _ _)))
            | (go_at_call 41; refine (read_any _ _).mono ?_; rintro e w1 ⟨rfl, hx1⟩; have tb1 := fun x => there_below (b := x) (n := 128) hx1; have sz1 := hx1.size; (try simp only [sz_alloc, drew_size] at sz1); (try have p10 : w1.there W0.heap.size 0 128 := tb1 _ (by first | exact hnew _ | exact hnew1 _ _)); (try have p11 : w1.there (W0.heap.size + 1) 0 128 := tb1 _ (hnew2 _ _))))
        all_goals go_wp2_with fail
        all_goals go_meet
        all_goals exact ⟨_, _, rfl, rfl, pairDone bl (by first | assumption | exact hnew _ | exact hnew1 _ _ | exact hnew2 _ _ | (refine hal _ _ _ ?_; assumption) | (refine hal2 _ _ _ _ ?_; assumption)) (by first | assumption | exact hnew _ | exact hnew1 _ _ | exact hnew2 _ _ | (refine hal _ _ _ ?_; assumption) | (refine hal2 _ _ _ _ ?_; assumption)) (by omega) (by assumption), And.left (by assumption : Below W0.heap.size W0 _ ∧ _)⟩
      case rest =>
        obtain ⟨bx, b', rfl, rfl, hT, hb7⟩ := hcut
        obtain ⟨W7, hW7⟩ : ∃ z, z = wc := ⟨_, rfl⟩
        subst hW7
        have hb71 := (hb7.block w.heap.size (by omega)).trans BB0.out
        have m5 : W7.cell? ⟨w.heap.size, 5, none⟩ = some (.int .i64 m.pre) := blk_cell hb71 5 _ rfl
        have HT := Lib.hid hT
        have HB7 := Lib.hid (HB0.out.trans (hb7.mono HB0.out.size))
        clear hT hb7 hb71 HKS c0 c1 c2 c3 c4 c5 c6 c7 v0 v1
        go_wp2_with fail
        go_loopw [11] (fun i W => ∃ (z : Int) (nq : Nat), i = .int .i64 z ∧ b - m.pre ≤ z ∧ (z ≤ b ∨ z = b - m.pre) ∧ W = W7.drewN nq ∧ Hid (∀ j : Nat, b - m.pre ≤ (j : Int) → (j : Int) < z → v.testBit j = m.val.testBit j)) (fun i _ => (b - intOf i).toNat)
        case atStart => exact ⟨b - m.pre, 0, rfl, Int.le_refl _, .inr rfl, rfl, Lib.hid fun j h1 h2 => absurd h1 (by omega)⟩
        case round =>
          clear m5
          obtain ⟨z, nq, rfl, hz0, hz1, rfl, HJ⟩ := hrel
          have hwz : IntKind.i64.wrap (z + 1) = z + 1 := IntWalk.i64_in _ (by omega)
          by_cases hlt : z < b
          · by_cases g0 : 0 ≤ z
            · obtain ⟨j, rfl⟩ : ∃ j : Nat, z = (j : Int) := ⟨z.toNat, by omega⟩
              have hj : j < 128 := by omega
              have hjI : (j : Int) < 128 := by omega
              obtain ⟨p1, hp1⟩ : ∃ p, p = v.testBit j := ⟨_, rfl⟩
              obtain ⟨p2, hp2⟩ : ∃ p, p = m.val.testBit j := ⟨_, rfl⟩
              have x1 : W7.cell? ⟨bx, j, none⟩ = some (.bool p1) := by rw [hp1]; exact HT.out.arrx.cell j hj
              have x2 : W7.cell? ⟨b', j, none⟩ = some (.bool p2) := by rw [hp2]; exact HT.out.arry.cell j hj
              have HP1 := Lib.hid hp1
              have HP2 := Lib.hid hp2
              clear hp1 hp2
              by_cases he : p1 = p2
              · have HJ2 : Hid (∀ i : Nat, b - m.pre ≤ (i : Int) → (i : Int) < (j : Int) + 1 → v.testBit i = m.val.testBit i) := Lib.hid fun i h1 h2 => by
                  by_cases h3 : i = j
                  · subst h3; rw [← HP1.out, ← HP2.out, he]
                  · exact HJ.out i h1 (by omega)
                subst he
                go_wp2_with fail
                go_quiet (fail)
                go_wp2_with fail
                go_roundw
                case rel => exact ⟨(j : Int) + 1, _, rfl, by omega, .inl (by omega), rfl, HJ2⟩
                case measure => simp [intOf]; omega
              · obtain rfl : r = false := bool_no HR.out fun h => he (by rw [HP1.out, HP2.out]; exact h j hz0 hlt)
                obtain rfl : p2 = !p1 := by cases p1 <;> cases p2 <;> simp_all
                clear he
                go_wp2_with fail
                go_quiet (fail)
                go_wp2_with fail
                go_ret
                exact ⟨rfl, HB7.out.trans ((below_dn _ _ _).trans (below_dn _ _ _))⟩
            · have g0d : decide (0 ≤ z) = false := decide_eq_false g0
              have HJ2 : Hid (∀ i : Nat, b - m.pre ≤ (i : Int) → (i : Int) < z + 1 → v.testBit i = m.val.testBit i) := Lib.hid fun i h1 h2 => absurd h2 (by omega)
              go_wp2_with fail
              go_quiet (fail)
              go_wp2_with fail
              go_roundw
              case rel => exact ⟨z + 1, _, rfl, by omega, .inl (by omega), rfl, HJ2⟩
              case measure => simp [intOf]; omega
          · obtain rfl : r = true := HR.out.2 fun i h1 h2 => HJ.out i h1 (by omega)
            go_wp2_with fail
            go_ret
            exact ⟨rfl, HB7.out.trans (below_dn _ _ _)⟩
    by_cases h3 : kd = 3
    · subst h3
      have HR := Lib.hid (hr.trans ((cov3 m b v).trans ⟨fun h => h hp, fun h _ => h⟩))
      have hq : ∀ W : World, (Op.equalIn 10000 25 (.agg #[.int .u64 (hi (v &&& m.mask)), .int .u64 (lo (v &&& m.mask))]) (.agg #[.int .u64 (hi m.val), .int .u64 (lo m.val)])).run Try.prog W = .ok r W := fun W => eqd_val (v &&& m.mask) m.val (Lib.hid (and_128 HV.out)) (Lib.hid HM.out.1) r HR.out W
      have KA : Hid (∀ W, Calls Try.prog 46 #[.agg #[.int .u64 (hi v), .int .u64 (lo v)], .agg #[.int .u64 (hi m.mask), .int .u64 (lo m.mask)]] W (RetV (v &&& m.mask) W)) := Lib.hid fun W => rand_any v m.mask HV.out HM.out.2.1 W
      clear hp hr
      have c0 : W0.cell? ⟨w.heap.size, 0, none⟩ = some (.bool true) := by rw [← HP.out]; exact blk_cell BB0.out 0 _ rfl
      have c1 : W0.cell? ⟨w.heap.size, 1, none⟩ = some (.int .u64 (hi m.val)) := blk_cell BB0.out 1 _ rfl
      have c2 : W0.cell? ⟨w.heap.size, 2, none⟩ = some (.int .u64 (lo m.val)) := blk_cell BB0.out 2 _ rfl
      have c3 : W0.cell? ⟨w.heap.size, 3, none⟩ = some (.int .u64 (hi m.mask)) := blk_cell BB0.out 3 _ rfl
      have c4 : W0.cell? ⟨w.heap.size, 4, none⟩ = some (.int .u64 (lo m.mask)) := blk_cell BB0.out 4 _ rfl
      have c5 : W0.cell? ⟨w.heap.size, 5, none⟩ = some (.int .i64 m.pre) := blk_cell BB0.out 5 _ rfl
      have c6 : W0.cell? ⟨w.heap.size, 6, none⟩ = some (.int .u64 (hi m.high)) := blk_cell BB0.out 6 _ rfl
      have c7 : W0.cell? ⟨w.heap.size, 7, none⟩ = some (.int .u64 (lo m.high)) := blk_cell BB0.out 7 _ rfl
      have v0 : W0.cell? ⟨w.heap.size + 1, 0, none⟩ = some (.int .u64 (hi v)) := blk_cell BB1.out 0 _ rfl
      have v1 : W0.cell? ⟨w.heap.size + 1, 1, none⟩ = some (.int .u64 (lo v)) := blk_cell BB1.out 1 _ rfl
      have HKS : Hid (∀ w', Below W0.heap.size W0 w' → Below W0.heap.size W0 w' ∧ w'.cell? ⟨w.heap.size, 0, none⟩ = some (.bool true) ∧ w'.cell? ⟨w.heap.size, 1, none⟩ = some (.int .u64 (hi m.val)) ∧ w'.cell? ⟨w.heap.size, 2, none⟩ = some (.int .u64 (lo m.val)) ∧ w'.cell? ⟨w.heap.size, 3, none⟩ = some (.int .u64 (hi m.mask)) ∧ w'.cell? ⟨w.heap.size, 4, none⟩ = some (.int .u64 (lo m.mask)) ∧ w'.cell? ⟨w.heap.size, 5, none⟩ = some (.int .i64 m.pre) ∧ w'.cell? ⟨w.heap.size, 6, none⟩ = some (.int .u64 (hi m.high)) ∧ w'.cell? ⟨w.heap.size, 7, none⟩ = some (.int .u64 (lo m.high)) ∧ w'.cell? ⟨w.heap.size + 1, 0, none⟩ = some (.int .u64 (hi v)) ∧ w'.cell? ⟨w.heap.size + 1, 1, none⟩ = some (.int .u64 (lo v))) := Lib.hid fun w' hb => by
        have q0 := (hb.block (w.heap.size) (by omega)).trans BB0.out
        have q1 := (hb.block (w.heap.size + 1) (by omega)).trans BB1.out
        exact ⟨hb, (by rw [← HP.out]; exact blk_cell q0 0 _ rfl), blk_cell q0 1 _ rfl, blk_cell q0 2 _ rfl, blk_cell q0 3 _ rfl, blk_cell q0 4 _ rfl, blk_cell q0 5 _ rfl, blk_cell q0 6 _ rfl, blk_cell q0 7 _ rfl, blk_cell q1 0 _ rfl, blk_cell q1 1 _ rfl⟩
      go_enter Try.func12, Try.ntmps12
      go_upto_region 1 with fail
      rw [← HW0.out]
      go_wp2_with fail
      go_region_held3 (fun w' => Below W0.heap.size W0 w' ∧ w'.cell? ⟨w.heap.size, 0, none⟩ = some (.bool true) ∧ w'.cell? ⟨w.heap.size, 1, none⟩ = some (.int .u64 (hi m.val)) ∧ w'.cell? ⟨w.heap.size, 2, none⟩ = some (.int .u64 (lo m.val)) ∧ w'.cell? ⟨w.heap.size, 3, none⟩ = some (.int .u64 (hi m.mask)) ∧ w'.cell? ⟨w.heap.size, 4, none⟩ = some (.int .u64 (lo m.mask)) ∧ w'.cell? ⟨w.heap.size, 5, none⟩ = some (.int .i64 m.pre) ∧ w'.cell? ⟨w.heap.size, 6, none⟩ = some (.int .u64 (hi m.high)) ∧ w'.cell? ⟨w.heap.size, 7, none⟩ = some (.int .u64 (lo m.high)) ∧ w'.cell? ⟨w.heap.size + 1, 0, none⟩ = some (.int .u64 (hi v)) ∧ w'.cell? ⟨w.heap.size + 1, 1, none⟩ = some (.int .u64 (lo v)))
        (first
          | exact HKS.out _ (Below.drew (Below.refl _ _))
          | exact HKS.out _ (below_call (And.left (by assumption)) (by assumption))
          | exact HKS.out _ (below_alloc (And.left (by assumption)) _)
          | assumption)
        (first
          | (go_at_call 46; (with_reducible refine (KA.out _).mono ?_); rintro en v1 ⟨rfl, hv1⟩))
      all_goals go_wp2
      all_goals go_ret
      all_goals exact ⟨by first | rfl | simp, HB0.out.trans ((And.left (by assumption : Below W0.heap.size W0 _ ∧ _)).mono HB0.out.size)⟩
    by_cases h4 : kd = 4
    · subst h4
      have HR := Lib.hid (hr.trans ((cov4 m b v).trans ⟨fun h => h hp, fun h _ => h⟩))
      obtain ⟨C1, hC1⟩ : ∃ C, C = cmp m.val v := ⟨_, rfl⟩
      obtain ⟨C2, hC2⟩ : ∃ C, C = cmp v m.high := ⟨_, rfl⟩
      have h1 : C1 ≤ 0 ↔ m.val ≤ v := by rw [hC1]; exact cmp_le
      have h2 : C2 ≤ 0 ↔ v ≤ m.high := by rw [hC2]; exact cmp_le
      have K1 : Hid (∀ W, Calls Try.prog 47 #[.agg #[.int .u64 (hi m.val), .int .u64 (lo m.val)], .agg #[.int .u64 (hi v), .int .u64 (lo v)]] W (RetX (.int .i64 C1) W)) := Lib.hid fun W => by rw [hC1]; exact rcompare_any m.val v HM.out.1 HV.out W
      have K2 : Hid (∀ W, Calls Try.prog 47 #[.agg #[.int .u64 (hi v), .int .u64 (lo v)], .agg #[.int .u64 (hi m.high), .int .u64 (lo m.high)]] W (RetX (.int .i64 C2) W)) := Lib.hid fun W => by rw [hC2]; exact rcompare_any v m.high HV.out HM.out.2.2.1 W
      clear hp hr hC1 hC2
      have c0 : W0.cell? ⟨w.heap.size, 0, none⟩ = some (.bool true) := by rw [← HP.out]; exact blk_cell BB0.out 0 _ rfl
      have c1 : W0.cell? ⟨w.heap.size, 1, none⟩ = some (.int .u64 (hi m.val)) := blk_cell BB0.out 1 _ rfl
      have c2 : W0.cell? ⟨w.heap.size, 2, none⟩ = some (.int .u64 (lo m.val)) := blk_cell BB0.out 2 _ rfl
      have c3 : W0.cell? ⟨w.heap.size, 3, none⟩ = some (.int .u64 (hi m.mask)) := blk_cell BB0.out 3 _ rfl
      have c4 : W0.cell? ⟨w.heap.size, 4, none⟩ = some (.int .u64 (lo m.mask)) := blk_cell BB0.out 4 _ rfl
      have c5 : W0.cell? ⟨w.heap.size, 5, none⟩ = some (.int .i64 m.pre) := blk_cell BB0.out 5 _ rfl
      have c6 : W0.cell? ⟨w.heap.size, 6, none⟩ = some (.int .u64 (hi m.high)) := blk_cell BB0.out 6 _ rfl
      have c7 : W0.cell? ⟨w.heap.size, 7, none⟩ = some (.int .u64 (lo m.high)) := blk_cell BB0.out 7 _ rfl
      have v0 : W0.cell? ⟨w.heap.size + 1, 0, none⟩ = some (.int .u64 (hi v)) := blk_cell BB1.out 0 _ rfl
      have v1 : W0.cell? ⟨w.heap.size + 1, 1, none⟩ = some (.int .u64 (lo v)) := blk_cell BB1.out 1 _ rfl
      by_cases g1 : C1 ≤ 0
      · have hrr : r = decide (C2 ≤ 0) := bool_eq HR.out decide_eq_true_iff ⟨fun h => h2.2 h.2, fun h => ⟨h1.1 g1, h2.1 h⟩⟩
        have HRR := Lib.hid hrr
        clear hrr h1 h2
        go_enter Try.func12, Try.ntmps12
        go_upto_region 1 with fail
        rw [← HW0.out]
        go_wp2_with fail
        refine (K1.out _).mono ?_
        rintro en w1 ⟨rfl, hv1⟩
        have HB1 := Lib.hid (HB0.out.trans (hv1.mono HB0.out.size))
        have hy1 := hv1.size
        have B10 := Lib.hid ((hv1.block w.heap.size (by omega)).trans BB0.out)
        have B11 := Lib.hid ((hv1.block (w.heap.size + 1) (by omega)).trans BB1.out)
        clear hv1 c0 c1 c2 c3 c4 c5 c6 c7 v0 v1
        have c0 : w1.cell? ⟨w.heap.size, 0, none⟩ = some (.bool true) := by rw [← HP.out]; exact blk_cell B10.out 0 _ rfl
        have c1 : w1.cell? ⟨w.heap.size, 1, none⟩ = some (.int .u64 (hi m.val)) := blk_cell B10.out 1 _ rfl
        have c2 : w1.cell? ⟨w.heap.size, 2, none⟩ = some (.int .u64 (lo m.val)) := blk_cell B10.out 2 _ rfl
        have c3 : w1.cell? ⟨w.heap.size, 3, none⟩ = some (.int .u64 (hi m.mask)) := blk_cell B10.out 3 _ rfl
        have c4 : w1.cell? ⟨w.heap.size, 4, none⟩ = some (.int .u64 (lo m.mask)) := blk_cell B10.out 4 _ rfl
        have c5 : w1.cell? ⟨w.heap.size, 5, none⟩ = some (.int .i64 m.pre) := blk_cell B10.out 5 _ rfl
        have c6 : w1.cell? ⟨w.heap.size, 6, none⟩ = some (.int .u64 (hi m.high)) := blk_cell B10.out 6 _ rfl
        have c7 : w1.cell? ⟨w.heap.size, 7, none⟩ = some (.int .u64 (lo m.high)) := blk_cell B10.out 7 _ rfl
        have v0 : w1.cell? ⟨w.heap.size + 1, 0, none⟩ = some (.int .u64 (hi v)) := blk_cell B11.out 0 _ rfl
        have v1 : w1.cell? ⟨w.heap.size + 1, 1, none⟩ = some (.int .u64 (lo v)) := blk_cell B11.out 1 _ rfl
        go_wp2_with fail
        refine (K2.out _).mono ?_
        rintro en w2 ⟨rfl, hv2⟩
        have HB2 := Lib.hid (HB1.out.trans (hv2.mono HB1.out.size))
        have hy2 := hv2.size
        clear hv2
        go_wp2_with fail
        go_ret
        exact ⟨by rw [HRR.out]; first | rfl | simp, HB2.out⟩
      · obtain rfl : r = false := bool_no HR.out fun h => g1 (h1.2 h.1)
        clear h1 h2
        go_enter Try.func12, Try.ntmps12
        go_upto_region 1 with fail
        rw [← HW0.out]
        go_wp2_with fail
        refine (K1.out _).mono ?_
        rintro en w1 ⟨rfl, hv1⟩
        have HB1 := Lib.hid (HB0.out.trans (hv1.mono HB0.out.size))
        have hy1 := hv1.size
        clear hv1 c0 c1 c2 c3 c4 c5 c6 c7 v0 v1
        go_wp2_with fail
        go_ret
        exact ⟨rfl, HB1.out⟩
    obtain rfl : r = false := bool_no hr (by unfold covM; rw [if_neg h1, if_neg h2, if_neg h3, if_neg h4]; exact id)
    clear hp hr
    have c0 : W0.cell? ⟨w.heap.size, 0, none⟩ = some (.bool true) := by rw [← HP.out]; exact blk_cell BB0.out 0 _ rfl
    have c1 : W0.cell? ⟨w.heap.size, 1, none⟩ = some (.int .u64 (hi m.val)) := blk_cell BB0.out 1 _ rfl
    have c2 : W0.cell? ⟨w.heap.size, 2, none⟩ = some (.int .u64 (lo m.val)) := blk_cell BB0.out 2 _ rfl
    have c3 : W0.cell? ⟨w.heap.size, 3, none⟩ = some (.int .u64 (hi m.mask)) := blk_cell BB0.out 3 _ rfl
    have c4 : W0.cell? ⟨w.heap.size, 4, none⟩ = some (.int .u64 (lo m.mask)) := blk_cell BB0.out 4 _ rfl
    have c5 : W0.cell? ⟨w.heap.size, 5, none⟩ = some (.int .i64 m.pre) := blk_cell BB0.out 5 _ rfl
    have c6 : W0.cell? ⟨w.heap.size, 6, none⟩ = some (.int .u64 (hi m.high)) := blk_cell BB0.out 6 _ rfl
    have c7 : W0.cell? ⟨w.heap.size, 7, none⟩ = some (.int .u64 (lo m.high)) := blk_cell BB0.out 7 _ rfl
    have v0 : W0.cell? ⟨w.heap.size + 1, 0, none⟩ = some (.int .u64 (hi v)) := blk_cell BB1.out 0 _ rfl
    have v1 : W0.cell? ⟨w.heap.size + 1, 1, none⟩ = some (.int .u64 (lo v)) := blk_cell BB1.out 1 _ rfl
    have H1 := Lib.hid h1
    have H2 := Lib.hid h2
    have H3 := Lib.hid h3
    have H4 := Lib.hid h4
    clear h1 h2 h3 h4
    go_enter Try.func12, Try.ntmps12
    go_upto_region 1 with fail
    rw [← HW0.out]
    go_upto_region 3 with fail
    have h1 := H1.out
    have h2 := H2.out
    have h3 := H3.out
    have h4 := H4.out
    go_wp2_with fail
    go_ret
    exact ⟨rfl, HB0.out⟩
end Go.Proofs.Ytjdecoiciecfpaa
