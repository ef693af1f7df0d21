/- A match out of choices. -/
import Derived.Test.YthldelnibgdnaaaGLow2
namespace Go.Proofs.Ythldelnibgdnaaa
open Go.RowKit

def mat0 : MatchD := ⟨false, 0, 0, 0, 0⟩
/-- A valid match for a key of a kind and b bits (at most 32). -/
def MFit (kd : Int) (b : Nat) (m : MatchD) : Prop :=
  (kd ≠ 1 ∧ m = mat0) ∨ (kd = 1 ∧ ∃ v, v < 2 ^ b ∧ m = ⟨true, v, 0, 0, 0⟩) ∨ (kd = 2 ∧ ∃ v n : Nat, v < 2 ^ b ∧ 1 ≤ n ∧ n ≤ b ∧ m = ⟨true, v &&& (2 ^ b - 2 ^ (b - n)), 0, (n : Int), 0⟩) ∨
  (kd = 3 ∧ ∃ v k : Nat, 0 < k ∧ k < 2 ^ b ∧ m = ⟨true, v &&& k, k, 0, 0⟩) ∨ (kd = 4 ∧ ∃ v h : Nat, v ≤ h ∧ h < 2 ^ b ∧ ¬ (v = 0 ∧ h = 2 ^ b - 1) ∧ m = ⟨true, v, 0, 0, h⟩)
def RetMatch (K D : Nat) (l : List Nat) (kd : Int) (b : Nat) (w : World) (en : Ending) (w' : World) : Prop := ∃ m : MatchD, en = .returned (.agg #[.bool m.pres, .int .u64 (hi m.val), .int .u64 (lo m.val), .int .u64 (hi m.mask), .int .u64 (lo m.mask), .int .i64 m.pre, .int .u64 (hi m.high), .int .u64 (lo m.high)]) ∧ MFit kd b m ∧ w.grownBy w' (some K) ∧ ∃ p, CoAt K D l p w'
theorem CoAt.belowC {K D p : Nat} {l : List Nat} {w w' : World} (h : CoAt K D l p w) (hb : Below w.heap.size w w') : CoAt K D l p w' := h.kept (grown_of_below hb none) (by simp) (by simp)
theorem next16 {K D p : Nat} {l : List Nat} {w : World} (h : CoAt K D l p w) : Calls Try.prog 16 #[.pointer (some ⟨K, 0, none⟩), .int .i64 16] w (Chose K D l 16 w) := next_any 16 (by decide) (by decide) h
theorem next32 {K D p : Nat} {l : List Nat} {w : World} (h : CoAt K D l p w) : Calls Try.prog 16 #[.pointer (some ⟨K, 0, none⟩), .int .i64 32] w (Chose K D l 32 w) := next_any 32 (by decide) (by decide) h
theorem grown_set8 {k : Nat} (w : World) (v0 v1 v2 v3 v4 v5 v6 v7 : Value) : w.grownBy ((((((((w.setCell ⟨k, 0, none⟩ v0).setCell ⟨k, 1, none⟩ v1).setCell ⟨k, 2, none⟩ v2).setCell ⟨k, 3, none⟩ v3).setCell ⟨k, 4, none⟩ v4).setCell ⟨k, 5, none⟩ v5).setCell ⟨k, 6, none⟩ v6).setCell ⟨k, 7, none⟩ v7) (some k) := ((((((((grown_set w k 0 v0).trans (grown_set _ k 1 v1)).trans (grown_set _ k 2 v2)).trans (grown_set _ k 3 v3)).trans (grown_set _ k 4 v4)).trans (grown_set _ k 5 v5)).trans (grown_set _ k 6 v6)).trans (grown_set _ k 7 v7))
theorem grown_newM {w W W' : World} {row : Option Nat} {L : Nat} (h : w.grownBy W row) (h2 : W.grownBy W' (some L)) (hL : w.heap.size ≤ L) : w.grownBy W' row :=
  ⟨h2.os.trans h.os, h2.tape.trans h.tape, h2.output.trans h.output, Nat.le_trans h.size h2.size, fun k hk hr => by rw [h2.block k (Nat.lt_of_lt_of_le hk h.size) (fun e => by injection e with e; omega), h.block k hk hr]⟩
theorem lowB_lt (a b : Nat) (h : b ≤ 32) : lowB a b < 2 ^ b := by
  unfold lowB cl
  rw [show (min (max (b : Int) 0) 128).toNat = b from by omega]
  exact Nat.mod_lt _ (Nat.two_pow_pos b)
theorem pow32 {b : Nat} (h : b ≤ 32) : 2 ^ b ≤ 4294967296 := by
  have := Nat.pow_le_pow_right (n := 2) (by decide) h
  simpa using this
theorem hi_z : hi 0 = 0 := rfl
theorem lo_z : lo 0 = 0 := rfl
theorem hi_small {n : Nat} (h : n < 18446744073709551616) : hi n = 0 := by
  unfold hi
  rw [Nat.div_eq_of_lt h]
  rfl
theorem lo_small {n : Nat} (h : n < 18446744073709551616) : lo n = (n : Int) := by
  unfold lo
  rw [Nat.mod_eq_of_lt h]
/-- What stands at the end: the result in its block. -/
theorem mat_end {K D p : Nat} {l : List Nat} {kd : Int} {b : Nat} {w W : World} (m : MatchD) (hm : MFit kd b m) (hg : w.grownBy W (some K)) (hc : CoAt K D l p W) (hK : K < w.heap.size) (hD : l ≠ [] → D < w.heap.size)
    (v0 v1 v2 v3 v4 v5 v6 v7 : Value) (e : Ending) (he : e = .returned (.agg #[.bool m.pres, .int .u64 (hi m.val), .int .u64 (lo m.val), .int .u64 (hi m.mask), .int .u64 (lo m.mask), .int .i64 m.pre, .int .u64 (hi m.high), .int .u64 (lo m.high)])) :
    RetMatch K D l kd b w e ((((((((W.setCell ⟨w.heap.size + 2, 0, none⟩ v0).setCell ⟨w.heap.size + 2, 1, none⟩ v1).setCell ⟨w.heap.size + 2, 2, none⟩ v2).setCell ⟨w.heap.size + 2, 3, none⟩ v3).setCell ⟨w.heap.size + 2, 4, none⟩ v4).setCell ⟨w.heap.size + 2, 5, none⟩ v5).setCell ⟨w.heap.size + 2, 6, none⟩ v6).setCell ⟨w.heap.size + 2, 7, none⟩ v7) := by
  refine ⟨m, he, hm, grown_newM hg (grown_set8 W v0 v1 v2 v3 v4 v5 v6 v7) (by omega), p, hc.kept (grown_set8 W v0 v1 v2 v3 v4 v5 v6 v7) (fun e => by injection e with e; omega) (fun h e => by have := hD h; injection e with e; omega)⟩
set_option maxRecDepth 100000 in
set_option maxHeartbeats 8000000 in
theorem cs_match (w : World) (B K D p0 : Nat) (l : List Nat) (A0 : Option Addr) (n0 c0 : Nat) (fs : List FieldD) (h : RowV 3 FieldV B w (.slice A0 n0 c0) fs) (hB : B ≤ w.heap.size) (s1 s2 s3 s4 s5 s6 s7 s8 s9 : Value) (hco : CoAt K D l p0 w)
    (nm : ByteArray) (fd kd : Int) (b : Nat) (hb : fbits fs fd = (b : Int)) (hb1 : 1 ≤ b) (hb2 : b ≤ 32) (hk : kd = 1 ∨ (kd = 2 ∧ b = 32) ∨ kd = 3 ∨ kd = 4) :
    Calls Try.prog 23 #[.pointer (some ⟨K, 0, none⟩), .agg #[.slice A0 n0 c0, s1, s2, s3, s4, s5, s6, s7, s8, s9], .agg #[.string nm, .int .i64 fd, .int .i64 kd]] w (RetMatch K D l kd b w) := by
  obtain ⟨W0, hW0⟩ : ∃ W, W = ((w.alloc (.cells #[.slice A0 n0 c0, s1, s2, s3, s4, s5, s6, s7, s8, s9] 39)).alloc (.cells #[.string nm, .int .i64 fd, .int .i64 kd] 73)).alloc (.cells #[.bool false, .int .u64 0, .int .u64 0, .int .u64 0, .int .u64 0, .int .i64 0, .int .u64 0, .int .u64 0] 75) := ⟨_, rfl⟩
  have hB0 : Below w.heap.size w W0 := by rw [hW0]; exact (((Below.refl _ _).alloc (Nat.le_refl _) _).alloc (by simp) _).alloc (by simp <;> omega) _
  have hz0 : W0.heap.size = w.heap.size + 3 := by rw [hW0]; simp
  have b1 : W0.heap[w.heap.size + 1]? = some (.cells #[.string nm, .int .i64 fd, .int .i64 kd] 73 (0, 0)) := by
    rw [hW0, show w.heap.size + 1 = (w.alloc (.cells #[.slice A0 n0 c0, s1, s2, s3, s4, s5, s6, s7, s8, s9] 39)).heap.size by simp]
    exact (((Below.refl _ _).alloc (Nat.le_refl _) _).block _ (by simp)).trans (heap_alloc_new _ _)
  have b2 : W0.heap[w.heap.size + 2]? = some (.cells #[.bool false, .int .u64 0, .int .u64 0, .int .u64 0, .int .u64 0, .int .i64 0, .int .u64 0, .int .u64 0] 75 (0, 0)) := by
    rw [hW0, show w.heap.size + 2 = ((w.alloc (.cells #[.slice A0 n0 c0, s1, s2, s3, s4, s5, s6, s7, s8, s9] 39)).alloc (.cells #[.string nm, .int .i64 fd, .int .i64 kd] 73)).heap.size by simp]
    exact heap_alloc_new _ _
  have KX := Lib.hid (cs_bitsOf W0 B A0 n0 c0 fs (h.below kept_field (hB0.mono hB)) (Nat.le_trans hB hB0.size) s1 s2 s3 s4 s5 s6 s7 s8 s9 fd)
  rw [hb] at KX
  have HC0 := Lib.hid (hco.belowC hB0)
  have HB0 := Lib.hid hB0
  have HW0 := Lib.hid hW0
  have Hb1 := Lib.hid b1
  have Hb2 := Lib.hid b2
  have hKl := hco.lt
  have hDl := hco.dlt
  clear h hb hco hB0 hW0 b1 b2
  go_enter Try.func23, Try.ntmps23
  go_wp2_with fail
  rw [← HW0.out]
  refine KX.out.mono ?_
  rintro en w1 ⟨rfl, hb1'⟩
  have HC1 := Lib.hid (HC0.out.belowC hb1')
  have HG1 := Lib.hid (World.grownBy.trans (grown_of_below HB0.out (some K)) (grown_of_below hb1' (some K)))
  have hz1 : w.heap.size + 3 ≤ w1.heap.size := by have := hb1'.size; omega
  have bk1 := (hb1'.block (w.heap.size + 1) (by omega)).trans Hb1.out
  have bm1 := (hb1'.block (w.heap.size + 2) (by omega)).trans Hb2.out
  have BK1 := Lib.hid bk1
  have BM1 := Lib.hid bm1
  clear hb1' KX bk1 bm1
  go_wp2_with fail
  refine (next256 HC1.out).mono ?_
  rintro en w2 ⟨x1, hx1, rfl, hg2, p2, hc2⟩
  go_wp2_with fail
  refine (next16 hc2).mono ?_
  rintro en w3 ⟨x2, hx2, rfl, hg3, p3, hc3⟩
  go_wp2_with fail
  refine (next16 hc3).mono ?_
  rintro en w4 ⟨x3, hx3, rfl, hg4, p4, hc4⟩
  go_wp2_with fail
  obtain ⟨N, hN⟩ : ∃ N : Nat, N = (x1 * 16777216 ||| x2 * 256) ||| x3 := ⟨_, rfl⟩
  have hNl : N < 4294967296 := by
    rw [hN]
    exact Nat.or_lt_two_pow (n := 32) (Nat.or_lt_two_pow (by omega) (by omega)) (by omega)
  have eN : bits .or .u64 (bits .or .u64 ((x1 : Int) * 16777216) ((x2 : Int) * 256)) (x3 : Int) = lo N := by
    rw [show (x1 : Int) * 16777216 = ((x1 * 16777216 : Nat) : Int) by omega, show (x2 : Int) * 256 = ((x2 * 256 : Nat) : Int) by omega, u64_or_nat _ _ (by omega) (by omega), u64_or_nat _ _ (Nat.or_lt_two_pow (n := 64) (by omega) (by omega)) (by omega), ← hN, lo_small (by omega)]
  have KL : Hid (Calls Try.prog 9 #[.agg #[.int .u64 0, .int .u64 (bits .or .u64 (bits .or .u64 ((x1 : Int) * 16777216) ((x2 : Int) * 256)) (x3 : Int))], .int .i64 (b : Int)] w4 (RetV (lowB N b) w4)) := Lib.hid (by
    have := cs_low N b (by omega) (by omega) w4
    rw [hi_small (by omega)] at this
    rw [eN]
    exact this)
  refine KL.out.mono ?_
  rintro en w5 ⟨rfl, hb5⟩
  have hvl := lowB_lt N b hb2
  have hp32 := pow32 hb2
  generalize lowB N b = v at hvl ⊢
  have hg5 : w.grownBy w5 (some K) := ((((HG1.out.trans hg2).trans hg3).trans hg4).trans (grown_of_below hb5 (some K)))
  have hc5 : CoAt K D l p4 w5 := hc4.belowC hb5
  have g15 : w1.grownBy w5 (some K) := (((hg2.trans hg3).trans hg4).trans (grown_of_below hb5 (some K)))
  have bk5 := (g15.block (w.heap.size + 1) (by omega) (fun e => by injection e with e; omega)).trans BK1.out
  have bm5 := (g15.block (w.heap.size + 2) (by omega) (fun e => by injection e with e; omega)).trans BM1.out
  have hz5 : w.heap.size + 3 ≤ w5.heap.size := Nat.le_trans hz1 g15.size
  obtain ⟨W5, hW5⟩ : ∃ W, W = w5.alloc (.cells #[.int .u64 (hi v), .int .u64 (lo v)] 29) := ⟨_, rfl⟩
  have hb55 : Below w5.heap.size w5 W5 := by rw [hW5]; exact (Below.refl _ _).alloc (Nat.le_refl _) _
  have bv : W5.heap[w5.heap.size]? = some (.cells #[.int .u64 (hi v), .int .u64 (lo v)] 29 (0, 0)) := by rw [hW5]; exact heap_alloc_new _ _
  have hz6 : W5.heap.size = w5.heap.size + 1 := by rw [hW5]; simp
  have hV5 : w5.heap.size < W5.heap.size := by omega
  have BK := Lib.hid ((hb55.block (w.heap.size + 1) (by omega)).trans bk5)
  have BM := Lib.hid ((hb55.block (w.heap.size + 2) (by omega)).trans bm5)
  have BV := Lib.hid bv
  have HG := Lib.hid (hg5.trans (grown_of_below hb55 (some K)))
  have HC := Lib.hid (hc5.belowC hb55)
  have HW5 := Lib.hid hW5
  have hv64 : v < 18446744073709551616 := by omega
  have kk : W5.cell? ⟨w.heap.size + 1, 2, none⟩ = some (.int .i64 kd) := blk_cell BK.out 2 _ rfl
  have vh : W5.cell? ⟨w5.heap.size, 0, none⟩ = some (.int .u64 (hi v)) := blk_cell BV.out 0 _ rfl
  have vl : W5.cell? ⟨w5.heap.size, 1, none⟩ = some (.int .u64 (lo v)) := blk_cell BV.out 1 _ rfl
  clear hN eN KL hb5 hg5 hc5 g15 bk5 bm5 hW5 hb55 bv hz6 hg2 hg3 hg4 hc2 hc3 hc4 HG1 HC1 HC0 hNl
  go_upto_region 3 with fail
  rw [← HW5.out]
  clear HW5 HW0
  generalize w5.heap.size = V at *
  rcases hk with rfl | ⟨rfl, rfl⟩ | rfl | rfl
  · have hm : MFit 1 b ⟨true, v, 0, 0, 0⟩ := .inr (.inl ⟨rfl, v, hvl, rfl⟩)
    have HM := Lib.hid hm
    clear hm
    have t0 : W5.cell? ⟨w.heap.size + 2, 0, none⟩ = some (.bool false) := blk_cell BM.out 0 _ rfl
    have g0 := blk_froz BM.out 0
    have t1 : W5.cell? ⟨w.heap.size + 2, 1, none⟩ = some (.int .u64 0) := blk_cell BM.out 1 _ rfl
    have g1 := blk_froz BM.out 1
    have t2 : W5.cell? ⟨w.heap.size + 2, 2, none⟩ = some (.int .u64 0) := blk_cell BM.out 2 _ rfl
    have g2 := blk_froz BM.out 2
    have t3 : W5.cell? ⟨w.heap.size + 2, 3, none⟩ = some (.int .u64 0) := blk_cell BM.out 3 _ rfl
    have g3 := blk_froz BM.out 3
    have t4 : W5.cell? ⟨w.heap.size + 2, 4, none⟩ = some (.int .u64 0) := blk_cell BM.out 4 _ rfl
    have g4 := blk_froz BM.out 4
    have t5 : W5.cell? ⟨w.heap.size + 2, 5, none⟩ = some (.int .i64 0) := blk_cell BM.out 5 _ rfl
    have g5 := blk_froz BM.out 5
    have t6 : W5.cell? ⟨w.heap.size + 2, 6, none⟩ = some (.int .u64 0) := blk_cell BM.out 6 _ rfl
    have g6 := blk_froz BM.out 6
    have t7 : W5.cell? ⟨w.heap.size + 2, 7, none⟩ = some (.int .u64 0) := blk_cell BM.out 7 _ rfl
    have g7 := blk_froz BM.out 7
    go_wp2_with fail
    have hq := blk_set8 BM.out (.bool true) (.int .u64 (hi v)) (.int .u64 (lo v)) (.int .u64 0) (.int .u64 0) (.int .i64 0) (.int .u64 0) (.int .u64 0)
    have q := fun j v h => blk_cell hq j v h
    refine bodyPost_ret (v := .agg #[.bool true, .int .u64 (hi v), .int .u64 (lo v), .int .u64 0, .int .u64 0, .int .i64 0, .int .u64 0, .int .u64 0]) (by simp [results, Try.results23, go_sem, q 0 _ rfl, q 1 _ rfl, q 2 _ rfl, q 3 _ rfl, q 4 _ rfl, q 5 _ rfl, q 6 _ rfl, q 7 _ rfl]) rfl ?_
    exact mat_end ⟨true, v, 0, 0, 0⟩ HM.out HG.out HC.out hKl hDl (.bool true) (.int .u64 (hi v)) (.int .u64 (lo v)) (.int .u64 0) (.int .u64 0) (.int .i64 0) (.int .u64 0) (.int .u64 0) _ (by simp only [hi_z, lo_z])
  · rw [show ((32 : Nat) : Int) = 32 from rfl]
    go_wp2_with fail
    refine (next5 HC.out).mono ?_
    rintro en w7 ⟨x4, hx4, rfl, hg7, p7, hc7⟩
    have bm7 := (hg7.block (w.heap.size + 2) (by omega) (fun e => by injection e with e; omega)).trans BM.out
    have bv7 := (hg7.block V (by omega) (fun e => by injection e with e; omega)).trans BV.out
    have hz7 := hg7.size
    have BM7 := Lib.hid bm7
    have BV7 := Lib.hid bv7
    have HG7 := Lib.hid (HG.out.trans hg7)
    have HC7 := Lib.hid hc7
    clear hg7 hc7 kk vh vl bm7 bv7
    by_cases h4 : x4 = 0
    · subst h4
      have hm : MFit 2 32 mat0 := .inl ⟨by decide, rfl⟩
      have HM := Lib.hid hm
      clear hm
      have t0 : w7.cell? ⟨w.heap.size + 2, 0, none⟩ = some (.bool false) := blk_cell BM7.out 0 _ rfl
      have g0 := blk_froz BM7.out 0
      have t1 : w7.cell? ⟨w.heap.size + 2, 1, none⟩ = some (.int .u64 0) := blk_cell BM7.out 1 _ rfl
      have g1 := blk_froz BM7.out 1
      have t2 : w7.cell? ⟨w.heap.size + 2, 2, none⟩ = some (.int .u64 0) := blk_cell BM7.out 2 _ rfl
      have g2 := blk_froz BM7.out 2
      have t3 : w7.cell? ⟨w.heap.size + 2, 3, none⟩ = some (.int .u64 0) := blk_cell BM7.out 3 _ rfl
      have g3 := blk_froz BM7.out 3
      have t4 : w7.cell? ⟨w.heap.size + 2, 4, none⟩ = some (.int .u64 0) := blk_cell BM7.out 4 _ rfl
      have g4 := blk_froz BM7.out 4
      have t5 : w7.cell? ⟨w.heap.size + 2, 5, none⟩ = some (.int .i64 0) := blk_cell BM7.out 5 _ rfl
      have g5 := blk_froz BM7.out 5
      have t6 : w7.cell? ⟨w.heap.size + 2, 6, none⟩ = some (.int .u64 0) := blk_cell BM7.out 6 _ rfl
      have g6 := blk_froz BM7.out 6
      have t7 : w7.cell? ⟨w.heap.size + 2, 7, none⟩ = some (.int .u64 0) := blk_cell BM7.out 7 _ rfl
      have g7 := blk_froz BM7.out 7
      go_wp2_with fail
      have hq := blk_set8 BM7.out (.bool false) (.int .u64 0) (.int .u64 0) (.int .u64 0) (.int .u64 0) (.int .i64 0) (.int .u64 0) (.int .u64 0)
      have q := fun j v h => blk_cell hq j v h
      refine bodyPost_ret (v := .agg #[.bool false, .int .u64 0, .int .u64 0, .int .u64 0, .int .u64 0, .int .i64 0, .int .u64 0, .int .u64 0]) (by simp [results, Try.results23, go_sem, q 0 _ rfl, q 1 _ rfl, q 2 _ rfl, q 3 _ rfl, q 4 _ rfl, q 5 _ rfl, q 6 _ rfl, q 7 _ rfl]) rfl ?_
      exact mat_end mat0 HM.out HG7.out HC7.out hKl hDl (.bool false) (.int .u64 0) (.int .u64 0) (.int .u64 0) (.int .u64 0) (.int .i64 0) (.int .u64 0) (.int .u64 0) _ (by simp only [mat0, hi_z, lo_z])
    · have h40 : (0 : Int) < (x4 : Int) := by omega
      go_wp2_with fail
      refine (next32 HC7.out).mono ?_
      rintro en w8 ⟨x5, hx5, rfl, hg8, p8, hc8⟩
      have hw5 : IntKind.i64.wrap (1 + (x5 : Int)) = 1 + (x5 : Int) := IntWalk.i64_in _ (by omega)
      obtain ⟨W8, hW8⟩ : ∃ W, W = w8.alloc (.cells #[.int .i64 32, .int .i64 8, .int .i64 16, .int .i64 1, .int .i64 (1 + (x5 : Int))] 3) := ⟨_, rfl⟩
      have hb8 : Below w8.heap.size w8 W8 := by rw [hW8]; exact (Below.refl _ _).alloc (Nat.le_refl _) _
      have bl8 : W8.heap[w8.heap.size]? = some (.cells #[.int .i64 32, .int .i64 8, .int .i64 16, .int .i64 1, .int .i64 (1 + (x5 : Int))] 3 (0, 0)) := by rw [hW8]; exact heap_alloc_new _ _
      have hz8 := hg8.size
      have hz88 : W8.heap.size = w8.heap.size + 1 := by rw [hW8]; simp
      have HC8 := Lib.hid (hc8.belowC hb8)
      have HW8 := Lib.hid hW8
      have HG8 := Lib.hid (HG7.out.trans (hg8.trans (grown_of_below hb8 (some K))))
      have G8 := Lib.hid (World.grownBy.trans hg8 (grown_of_below hb8 (some K)))
      have BL8 := Lib.hid bl8
      clear hg8 hc8 hW8 hb8 bl8
      go_wp2_with fail
      rw [← HW8.out]
      refine (next5 HC8.out).mono ?_
      rintro en w9 ⟨x6, hx6, rfl, hg9, p9, hc9⟩
      have G9 := Lib.hid (World.grownBy.trans G8.out hg9)
      have bl9 := (hg9.block w8.heap.size (by omega) (fun e => by injection e with e; omega)).trans BL8.out
      have bm9 := (G9.out.block (w.heap.size + 2) (by omega) (fun e => by injection e with e; omega)).trans BM7.out
      have bv9 := (G9.out.block V (by omega) (fun e => by injection e with e; omega)).trans BV7.out
      have hz9 := hg9.size
      obtain ⟨n, hn1, hn2, hcell⟩ : ∃ n : Nat, 1 ≤ n ∧ n ≤ 32 ∧ w9.cell? ⟨w8.heap.size, x6, none⟩ = some (.int .i64 (n : Int)) := by
        match x6, hx6 with
        | 0, _ => exact ⟨32, by decide, by decide, blk_cell bl9 0 _ rfl⟩
        | 1, _ => exact ⟨8, by decide, by decide, blk_cell bl9 1 _ rfl⟩
        | 2, _ => exact ⟨16, by decide, by decide, blk_cell bl9 2 _ rfl⟩
        | 3, _ => exact ⟨1, by decide, by decide, blk_cell bl9 3 _ rfl⟩
        | 4, _ => exact ⟨1 + x5, by omega, by omega, by rw [blk_cell bl9 4 _ rfl]; congr 2⟩
      have hx60 : 0 ≤ (x6 : Int) := by omega
      have hx65 : (x6 : Int) < 5 := by omega
      have BM9 := Lib.hid bm9
      have BV9 := Lib.hid bv9
      have HG9 := Lib.hid (HG8.out.trans hg9)
      have HC9 := Lib.hid hc9
      clear bl9 bm9 bv9 hg9 hc9 HC8 HW8 HG8 G8 BL8 G9
      go_upto_region 8 with fail
      clear hcell hx60 hx65 hw5 h40
      have m1 : w9.drew.cell? ⟨V, 1, none⟩ = some (.int .u64 (lo v)) := blk_cell BV9.out 1 _ rfl
      have hVd : V < w9.heap.size := by omega
      have KM : Hid (∀ W : World, Calls Try.prog 41 #[.int .i64 32, .int .i64 (n : Int)] W (RetV (2 ^ 32 - 2 ^ (32 - n)) W)) := Lib.hid fun W => by
        have := cs_mask 32 (n : Int) (by omega) (by omega) (by decide) W
        rwa [show (32 - (n : Int)).toNat = 32 - n from by omega] at this
      generalize hmk : 2 ^ 32 - 2 ^ (32 - n) = mk at KM
      have hmk2 : mk < 18446744073709551616 := by rw [← hmk]; exact Nat.lt_of_le_of_lt (Nat.sub_le _ _) (by decide)
      have HMK := Lib.hid hmk
      have hm : MFit 2 32 ⟨true, v &&& mk, 0, (n : Int), 0⟩ := .inr (.inr (.inl ⟨rfl, v, n, hvl, hn1, hn2, by rw [← hmk]⟩))
      have HM := Lib.hid hm
      have HMA := Lib.hid (hi_small (show v &&& mk < 18446744073709551616 from Nat.lt_of_le_of_lt Nat.and_le_left hv64))
      clear hm hmk HMK
      have hfl := fun W => run_field_lo (hi mk) (lo mk) W
      go_region_with (go_at_call 41; (with_reducible refine (KM.out _).mono ?_); rintro en w10 ⟨rfl, hb10⟩; have m10 : w10.cell? ⟨V, 1, none⟩ = some (.int .u64 (lo v)) := (hb10.cell (p := ⟨V, 1, none⟩) hVd).trans m1; have bm10 := (hb10.block (w.heap.size + 2) (show w.heap.size + 2 < w9.heap.size by omega)).trans BM9.out; have BM10 := Lib.hid bm10; have t0 : w10.cell? ⟨w.heap.size + 2, 0, none⟩ = some (.bool false) := blk_cell bm10 0 _ rfl; have g0 := blk_froz bm10 0; have t1 : w10.cell? ⟨w.heap.size + 2, 1, none⟩ = some (.int .u64 0) := blk_cell bm10 1 _ rfl; have g1 := blk_froz bm10 1; have t2 : w10.cell? ⟨w.heap.size + 2, 2, none⟩ = some (.int .u64 0) := blk_cell bm10 2 _ rfl; have g2 := blk_froz bm10 2; have t3 : w10.cell? ⟨w.heap.size + 2, 3, none⟩ = some (.int .u64 0) := blk_cell bm10 3 _ rfl; have g3 := blk_froz bm10 3; have t4 : w10.cell? ⟨w.heap.size + 2, 4, none⟩ = some (.int .u64 0) := blk_cell bm10 4 _ rfl; have g4 := blk_froz bm10 4; have t5 : w10.cell? ⟨w.heap.size + 2, 5, none⟩ = some (.int .i64 0) := blk_cell bm10 5 _ rfl; have g5 := blk_froz bm10 5; have t6 : w10.cell? ⟨w.heap.size + 2, 6, none⟩ = some (.int .u64 0) := blk_cell bm10 6 _ rfl; have g6 := blk_froz bm10 6; have t7 : w10.cell? ⟨w.heap.size + 2, 7, none⟩ = some (.int .u64 0) := blk_cell bm10 7 _ rfl; have g7 := blk_froz bm10 7; have HG10 := Lib.hid (World.grownBy.trans HG9.out (grown_of_below (show Below w9.heap.size w9 w10 from (Below.drew (Below.refl _ _)).trans hb10) (some K))); have HC10 := Lib.hid (HC9.out.belowC (show Below w9.heap.size w9 w10 from (Below.drew (Below.refl _ _)).trans hb10)); clear hb10 bm10)
      all_goals go_wp2_with fail
      all_goals (
        have hq := blk_set8 BM10.out (.bool true) (.int .u64 0) (.int .u64 (bits .and .u64 (lo v) (lo mk))) (.int .u64 0) (.int .u64 0) (.int .i64 (n : Int)) (.int .u64 0) (.int .u64 0)
        have q := fun j v h => blk_cell hq j v h
        refine bodyPost_ret (v := .agg #[.bool true, .int .u64 0, .int .u64 (bits .and .u64 (lo v) (lo mk)), .int .u64 0, .int .u64 0, .int .i64 (n : Int), .int .u64 0, .int .u64 0]) (by simp [results, Try.results23, go_sem, q 0 _ rfl, q 1 _ rfl, q 2 _ rfl, q 3 _ rfl, q 4 _ rfl, q 5 _ rfl, q 6 _ rfl, q 7 _ rfl]) rfl ?_
        exact mat_end ⟨true, v &&& mk, 0, (n : Int), 0⟩ HM.out HG10.out HC10.out hKl hDl (.bool true) (.int .u64 0) (.int .u64 (bits .and .u64 (lo v) (lo mk))) (.int .u64 0) (.int .u64 0) (.int .i64 (n : Int)) (.int .u64 0) (.int .u64 0) _ (by simp only [hi_z, lo_z, HMA.out, and_lo]))
  · go_wp2_with fail
    refine (next256 HC.out).mono ?_
    rintro en w7 ⟨x4, hx4, rfl, hg7, p7, hc7⟩
    obtain ⟨W7, hW7⟩ : ∃ W, W = w7.alloc (.cells #[.int .i64 255, .int .i64 15, .int .i64 1, .int .i64 12, .int .i64 (x4 : Int)] 3) := ⟨_, rfl⟩
    have hb7 : Below w7.heap.size w7 W7 := by rw [hW7]; exact (Below.refl _ _).alloc (Nat.le_refl _) _
    have bl7 : W7.heap[w7.heap.size]? = some (.cells #[.int .i64 255, .int .i64 15, .int .i64 1, .int .i64 12, .int .i64 (x4 : Int)] 3 (0, 0)) := by rw [hW7]; exact heap_alloc_new _ _
    have hz7 := hg7.size
    have hz77 : W7.heap.size = w7.heap.size + 1 := by rw [hW7]; simp
    have HC7 := Lib.hid (hc7.belowC hb7)
    have HW7 := Lib.hid hW7
    have G7 := Lib.hid (World.grownBy.trans hg7 (grown_of_below hb7 (some K)))
    have BL7 := Lib.hid bl7
    clear hg7 hc7 hW7 hb7 bl7 kk vh vl
    go_wp2_with fail
    rw [← HW7.out]
    refine (next5 HC7.out).mono ?_
    rintro en w8 ⟨x5, hx5, rfl, hg8, p8, hc8⟩
    have G8 := Lib.hid (World.grownBy.trans G7.out hg8)
    have bl8 := (hg8.block w7.heap.size (by omega) (fun e => by injection e with e; omega)).trans BL7.out
    have hz8 := hg8.size
    obtain ⟨M, hM, hcell⟩ : ∃ M : Nat, M < 256 ∧ w8.cell? ⟨w7.heap.size, x5, none⟩ = some (.int .i64 (M : Int)) := by
      match x5, hx5 with
      | 0, _ => exact ⟨255, by decide, blk_cell bl8 0 _ rfl⟩
      | 1, _ => exact ⟨15, by decide, blk_cell bl8 1 _ rfl⟩
      | 2, _ => exact ⟨1, by decide, blk_cell bl8 2 _ rfl⟩
      | 3, _ => exact ⟨12, by decide, blk_cell bl8 3 _ rfl⟩
      | 4, _ => exact ⟨x4, hx4, blk_cell bl8 4 _ rfl⟩
    have hx60 : 0 ≤ (x5 : Int) := by omega
    have hx65 : (x5 : Int) < 5 := by omega
    have HC8 := Lib.hid hc8
    have KL2 : Hid (Calls Try.prog 9 #[.agg #[.int .u64 0, .int .u64 (M : Int)], .int .i64 (b : Int)] w8 (RetV (lowB M b) w8)) := Lib.hid (by
      have := cs_low M b (by omega) (by omega) w8
      rwa [hi_small (by omega), lo_small (by omega)] at this)
    have hMw : IntKind.u64.wrap (M : Int) = (M : Int) := u64_wrapN M (by omega)
    clear bl8 hg8 hc8 HC7 HW7 G7 BL7
    go_wp2_with fail
    refine KL2.out.mono ?_
    rintro en w9 ⟨rfl, hb9⟩
    have hml := lowB_lt M b hb2
    generalize lowB M b = mk at hml ⊢
    have HC9 := Lib.hid (HC8.out.belowC hb9)
    have G9 := Lib.hid (World.grownBy.trans G8.out (grown_of_below hb9 (some K)))
    have bm9 := (G9.out.block (w.heap.size + 2) (by omega) (fun e => by injection e with e; omega)).trans BM.out
    have bv9 := (G9.out.block V (by omega) (fun e => by injection e with e; omega)).trans BV.out
    have hz9 := hb9.size
    obtain ⟨W9, hW9⟩ : ∃ W, W = w9.alloc (.cells #[.int .u64 (hi mk), .int .u64 (lo mk)] 29) := ⟨_, rfl⟩
    have hb99 : Below w9.heap.size w9 W9 := by rw [hW9]; exact (Below.refl _ _).alloc (Nat.le_refl _) _
    have bq9 : W9.heap[w9.heap.size]? = some (.cells #[.int .u64 (hi mk), .int .u64 (lo mk)] 29 (0, 0)) := by rw [hW9]; exact heap_alloc_new _ _
    have bmW := (hb99.block (w.heap.size + 2) (by omega)).trans bm9
    have bvW := (hb99.block V (by omega)).trans bv9
    have r0 : W9.cell? ⟨w9.heap.size, 0, none⟩ = some (.int .u64 (hi mk)) := blk_cell bq9 0 _ rfl
    have r1 : W9.cell? ⟨w9.heap.size, 1, none⟩ = some (.int .u64 (lo mk)) := blk_cell bq9 1 _ rfl
    have r2 : W9.cell? ⟨V, 1, none⟩ = some (.int .u64 (lo v)) := blk_cell bvW 1 _ rfl
    have HCW := Lib.hid (HC9.out.belowC hb99)
    have HGW := Lib.hid (HG.out.trans (G9.out.trans (grown_of_below hb99 (some K))))
    have BMW := Lib.hid bmW
    have HW9 := Lib.hid hW9
    have hlm : lo mk = (mk : Int) := lo_small (by omega)
    have HLM := Lib.hid hlm
    clear hb9 KL2 HC8 G8 bm9 bv9 hb99 bq9 bvW hW9 bmW hcell hx60 hx65 hMw hlm
    go_upto_region 11 with fail
    rw [← HW9.out]
    by_cases hmk0 : mk = 0
    · subst hmk0
      have hm : MFit 3 b mat0 := .inl ⟨by decide, rfl⟩
      have HM := Lib.hid hm
      rw [lo_z] at r1
      clear hm
      have t0 : W9.cell? ⟨w.heap.size + 2, 0, none⟩ = some (.bool false) := blk_cell BMW.out 0 _ rfl
      have g0 := blk_froz BMW.out 0
      have t1 : W9.cell? ⟨w.heap.size + 2, 1, none⟩ = some (.int .u64 0) := blk_cell BMW.out 1 _ rfl
      have g1 := blk_froz BMW.out 1
      have t2 : W9.cell? ⟨w.heap.size + 2, 2, none⟩ = some (.int .u64 0) := blk_cell BMW.out 2 _ rfl
      have g2 := blk_froz BMW.out 2
      have t3 : W9.cell? ⟨w.heap.size + 2, 3, none⟩ = some (.int .u64 0) := blk_cell BMW.out 3 _ rfl
      have g3 := blk_froz BMW.out 3
      have t4 : W9.cell? ⟨w.heap.size + 2, 4, none⟩ = some (.int .u64 0) := blk_cell BMW.out 4 _ rfl
      have g4 := blk_froz BMW.out 4
      have t5 : W9.cell? ⟨w.heap.size + 2, 5, none⟩ = some (.int .i64 0) := blk_cell BMW.out 5 _ rfl
      have g5 := blk_froz BMW.out 5
      have t6 : W9.cell? ⟨w.heap.size + 2, 6, none⟩ = some (.int .u64 0) := blk_cell BMW.out 6 _ rfl
      have g6 := blk_froz BMW.out 6
      have t7 : W9.cell? ⟨w.heap.size + 2, 7, none⟩ = some (.int .u64 0) := blk_cell BMW.out 7 _ rfl
      have g7 := blk_froz BMW.out 7
      go_wp2_with fail
      have hq := blk_set8 BMW.out (.bool false) (.int .u64 0) (.int .u64 0) (.int .u64 0) (.int .u64 0) (.int .i64 0) (.int .u64 0) (.int .u64 0)
      have q := fun j v h => blk_cell hq j v h
      refine bodyPost_ret (v := .agg #[.bool false, .int .u64 0, .int .u64 0, .int .u64 0, .int .u64 0, .int .i64 0, .int .u64 0, .int .u64 0]) (by simp [results, Try.results23, go_sem, q 0 _ rfl, q 1 _ rfl, q 2 _ rfl, q 3 _ rfl, q 4 _ rfl, q 5 _ rfl, q 6 _ rfl, q 7 _ rfl]) rfl ?_
      exact mat_end mat0 HM.out HGW.out HCW.out hKl hDl (.bool false) (.int .u64 0) (.int .u64 0) (.int .u64 0) (.int .u64 0) (.int .i64 0) (.int .u64 0) (.int .u64 0) _ (by simp only [mat0, hi_z, lo_z])
    · have hm : MFit 3 b ⟨true, v &&& mk, mk, 0, 0⟩ := .inr (.inr (.inr (.inl ⟨rfl, v, mk, by omega, hml, rfl⟩)))
      have HM := Lib.hid hm
      have HMA := Lib.hid (hi_small (show v &&& mk < 18446744073709551616 from Nat.lt_of_le_of_lt Nat.and_le_left hv64))
      have hne : ¬ lo mk = 0 := by rw [HLM.out]; omega
      clear hm
      have t0 : W9.cell? ⟨w.heap.size + 2, 0, none⟩ = some (.bool false) := blk_cell BMW.out 0 _ rfl
      have g0 := blk_froz BMW.out 0
      have t1 : W9.cell? ⟨w.heap.size + 2, 1, none⟩ = some (.int .u64 0) := blk_cell BMW.out 1 _ rfl
      have g1 := blk_froz BMW.out 1
      have t2 : W9.cell? ⟨w.heap.size + 2, 2, none⟩ = some (.int .u64 0) := blk_cell BMW.out 2 _ rfl
      have g2 := blk_froz BMW.out 2
      have t3 : W9.cell? ⟨w.heap.size + 2, 3, none⟩ = some (.int .u64 0) := blk_cell BMW.out 3 _ rfl
      have g3 := blk_froz BMW.out 3
      have t4 : W9.cell? ⟨w.heap.size + 2, 4, none⟩ = some (.int .u64 0) := blk_cell BMW.out 4 _ rfl
      have g4 := blk_froz BMW.out 4
      have t5 : W9.cell? ⟨w.heap.size + 2, 5, none⟩ = some (.int .i64 0) := blk_cell BMW.out 5 _ rfl
      have g5 := blk_froz BMW.out 5
      have t6 : W9.cell? ⟨w.heap.size + 2, 6, none⟩ = some (.int .u64 0) := blk_cell BMW.out 6 _ rfl
      have g6 := blk_froz BMW.out 6
      have t7 : W9.cell? ⟨w.heap.size + 2, 7, none⟩ = some (.int .u64 0) := blk_cell BMW.out 7 _ rfl
      have g7 := blk_froz BMW.out 7
      go_wp2_with fail
      have hq := blk_set8 BMW.out (.bool true) (.int .u64 0) (.int .u64 (bits .and .u64 (lo v) (lo mk))) (.int .u64 (hi mk)) (.int .u64 (lo mk)) (.int .i64 0) (.int .u64 0) (.int .u64 0)
      have q := fun j v h => blk_cell hq j v h
      refine bodyPost_ret (v := .agg #[.bool true, .int .u64 0, .int .u64 (bits .and .u64 (lo v) (lo mk)), .int .u64 (hi mk), .int .u64 (lo mk), .int .i64 0, .int .u64 0, .int .u64 0]) (by simp [results, Try.results23, go_sem, q 0 _ rfl, q 1 _ rfl, q 2 _ rfl, q 3 _ rfl, q 4 _ rfl, q 5 _ rfl, q 6 _ rfl, q 7 _ rfl]) rfl ?_
      exact mat_end ⟨true, v &&& mk, mk, 0, 0⟩ HM.out HGW.out HCW.out hKl hDl (.bool true) (.int .u64 0) (.int .u64 (bits .and .u64 (lo v) (lo mk))) (.int .u64 (hi mk)) (.int .u64 (lo mk)) (.int .i64 0) (.int .u64 0) (.int .u64 0) _ (by simp only [hi_z, lo_z, HMA.out, and_lo])

  · have m1 : W5.drew.cell? ⟨V, 1, none⟩ = some (.int .u64 (lo v)) := blk_cell BV.out 1 _ rfl
    have hVd : V < W5.heap.size := hV5
    have hb0I : 0 ≤ (b : Int) := by omega
    have hb64 : (b : Int) ≤ 64 := by omega
    have HCd := Lib.hid HC.out.drew
    obtain ⟨TI, hTI⟩ : ∃ TI : Int, TI = ((2 ^ b - 1 : Nat) : Int) := ⟨_, rfl⟩
    have hT : IntKind.u64.wrap (IntKind.u64.wrap ((2 : Int) ^ min b 64) - 1) = TI := by
      rw [show min b 64 = b from by omega, mask_w (by omega), hTI]
    have hT2 : IntKind.u64.wrap (IntKind.u64.wrap ((2 : Int) ^ b) - 1) = TI := by rw [mask_w (by omega), hTI]
    have HTI := Lib.hid hTI
    clear hTI
    go_upto_region 14 with fail
    clear kk vh vl
    go_region_with (go_at_call 16; (with_reducible refine (next256 HCd.out).mono ?_); rintro en w7 ⟨x4, hx4, rfl, hg7, p7, hc7⟩; have bv7 := (hg7.block V hVd (fun e => by injection e with e; omega)).trans BV.out; have m7 : w7.cell? ⟨V, 1, none⟩ = some (.int .u64 (lo v)) := blk_cell bv7 1 _ rfl; have BV7 := Lib.hid bv7; have bm7 := (hg7.block (w.heap.size + 2) (show w.heap.size + 2 < W5.heap.size by omega) (fun e => by injection e with e; omega)).trans BM.out; have BM7 := Lib.hid bm7; have HG7 := Lib.hid (World.grownBy.trans HG.out (show W5.grownBy w7 (some K) from ⟨hg7.os, hg7.tape, hg7.output, hg7.size, hg7.block⟩)); have HC7 := Lib.hid hc7; have hz7 : W5.heap.size ≤ w7.heap.size := hg7.size; (obtain ⟨hh, hhE⟩ : ∃ hh : Nat, hh = min (v + x4) (2 ^ b - 1) := ⟨_, rfl⟩); (obtain ⟨AI, hAI⟩ : ∃ AI : Int, AI = ((v + x4 : Nat) : Int) := ⟨_, rfl⟩); have hA : IntKind.u64.wrap (lo v + (x4 : Int)) = AI := (by rw [lo_small hv64, hAI, show (v : Int) + (x4 : Int) = ((v + x4 : Nat) : Int) from by omega]; exact u64_wrapN _ (by omega)); have hmin : min AI TI = lo hh := (by rw [hAI, HTI.out, lo_small (by omega), hhE]; omega); have HHE := Lib.hid hhE; clear hAI hhE hg7 hc7 bv7 bm7)
    all_goals
      simp only [Exit.then]
      apply_assumption
      go_wp2_with fail
      refine (next5 HC7.out).mono ?_
      rintro en w8 ⟨x5, hx5, rfl, hg8, p8, hc8⟩
      have bm8 := (hg8.block (w.heap.size + 2) (by omega) (fun e => by injection e with e; omega)).trans BM7.out
      have bv8 := (hg8.block V (by omega) (fun e => by injection e with e; omega)).trans BV7.out
      have BM8 := Lib.hid bm8
      have HG8 := Lib.hid (HG7.out.trans hg8)
      have HC8 := Lib.hid hc8
      have vl8 : w8.cell? ⟨V, 1, none⟩ = some (.int .u64 (lo v)) := blk_cell bv8 1 _ rfl
      have vh8 : w8.cell? ⟨V, 0, none⟩ = some (.int .u64 (hi v)) := blk_cell bv8 0 _ rfl
      clear hg8 hc8 bm8 bv8
      by_cases h5 : x5 = 0
      · subst h5
        have hm : MFit 4 b mat0 := .inl ⟨by decide, rfl⟩
        have HM := Lib.hid hm
        clear hm
        have t0 : w8.cell? ⟨w.heap.size + 2, 0, none⟩ = some (.bool false) := blk_cell BM8.out 0 _ rfl
        have g0 := blk_froz BM8.out 0
        have t1 : w8.cell? ⟨w.heap.size + 2, 1, none⟩ = some (.int .u64 0) := blk_cell BM8.out 1 _ rfl
        have g1 := blk_froz BM8.out 1
        have t2 : w8.cell? ⟨w.heap.size + 2, 2, none⟩ = some (.int .u64 0) := blk_cell BM8.out 2 _ rfl
        have g2 := blk_froz BM8.out 2
        have t3 : w8.cell? ⟨w.heap.size + 2, 3, none⟩ = some (.int .u64 0) := blk_cell BM8.out 3 _ rfl
        have g3 := blk_froz BM8.out 3
        have t4 : w8.cell? ⟨w.heap.size + 2, 4, none⟩ = some (.int .u64 0) := blk_cell BM8.out 4 _ rfl
        have g4 := blk_froz BM8.out 4
        have t5 : w8.cell? ⟨w.heap.size + 2, 5, none⟩ = some (.int .i64 0) := blk_cell BM8.out 5 _ rfl
        have g5 := blk_froz BM8.out 5
        have t6 : w8.cell? ⟨w.heap.size + 2, 6, none⟩ = some (.int .u64 0) := blk_cell BM8.out 6 _ rfl
        have g6 := blk_froz BM8.out 6
        have t7 : w8.cell? ⟨w.heap.size + 2, 7, none⟩ = some (.int .u64 0) := blk_cell BM8.out 7 _ rfl
        have g7 := blk_froz BM8.out 7
        go_wp2_with fail
        have hq := blk_set8 BM8.out (.bool false) (.int .u64 0) (.int .u64 0) (.int .u64 0) (.int .u64 0) (.int .i64 0) (.int .u64 0) (.int .u64 0)
        have q := fun j v h => blk_cell hq j v h
        refine bodyPost_ret (v := .agg #[.bool false, .int .u64 0, .int .u64 0, .int .u64 0, .int .u64 0, .int .i64 0, .int .u64 0, .int .u64 0]) (by simp [results, Try.results23, go_sem, q 0 _ rfl, q 1 _ rfl, q 2 _ rfl, q 3 _ rfl, q 4 _ rfl, q 5 _ rfl, q 6 _ rfl, q 7 _ rfl]) rfl ?_
        exact mat_end mat0 HM.out HG8.out HC8.out hKl hDl (.bool false) (.int .u64 0) (.int .u64 0) (.int .u64 0) (.int .u64 0) (.int .i64 0) (.int .u64 0) (.int .u64 0) _ (by simp only [mat0, hi_z, lo_z])
      · have h50 : (0 : Int) < (x5 : Int) := by omega
        have hhe := HHE.out
        have HHI := Lib.hid (hi_small (show hh < 18446744073709551616 by omega))
        have hlh : lo hh = (hh : Int) := lo_small (by omega)
        have hlv : lo v = (v : Int) := lo_small hv64
        have hTo := HTI.out
        have hpb := Nat.two_pow_pos b
        by_cases hv0 : v = 0
        · subst hv0
          rw [lo_z] at vl8
          rw [hi_z] at vh8
          by_cases ht : hh = 2 ^ b - 1
          · have hm : MFit 4 b mat0 := .inl ⟨by decide, rfl⟩
            have HM := Lib.hid hm
            have htt : lo hh = TI := by rw [hlh, hTo, ht]
            clear hm hhe hlh hlv hTo ht
            have t0 : w8.cell? ⟨w.heap.size + 2, 0, none⟩ = some (.bool false) := blk_cell BM8.out 0 _ rfl
            have g0 := blk_froz BM8.out 0
            have t1 : w8.cell? ⟨w.heap.size + 2, 1, none⟩ = some (.int .u64 0) := blk_cell BM8.out 1 _ rfl
            have g1 := blk_froz BM8.out 1
            have t2 : w8.cell? ⟨w.heap.size + 2, 2, none⟩ = some (.int .u64 0) := blk_cell BM8.out 2 _ rfl
            have g2 := blk_froz BM8.out 2
            have t3 : w8.cell? ⟨w.heap.size + 2, 3, none⟩ = some (.int .u64 0) := blk_cell BM8.out 3 _ rfl
            have g3 := blk_froz BM8.out 3
            have t4 : w8.cell? ⟨w.heap.size + 2, 4, none⟩ = some (.int .u64 0) := blk_cell BM8.out 4 _ rfl
            have g4 := blk_froz BM8.out 4
            have t5 : w8.cell? ⟨w.heap.size + 2, 5, none⟩ = some (.int .i64 0) := blk_cell BM8.out 5 _ rfl
            have g5 := blk_froz BM8.out 5
            have t6 : w8.cell? ⟨w.heap.size + 2, 6, none⟩ = some (.int .u64 0) := blk_cell BM8.out 6 _ rfl
            have g6 := blk_froz BM8.out 6
            have t7 : w8.cell? ⟨w.heap.size + 2, 7, none⟩ = some (.int .u64 0) := blk_cell BM8.out 7 _ rfl
            have g7 := blk_froz BM8.out 7
            go_wp2_with fail
            have hq := blk_set8 BM8.out (.bool false) (.int .u64 0) (.int .u64 0) (.int .u64 0) (.int .u64 0) (.int .i64 0) (.int .u64 0) (.int .u64 0)
            have q := fun j v h => blk_cell hq j v h
            refine bodyPost_ret (v := .agg #[.bool false, .int .u64 0, .int .u64 0, .int .u64 0, .int .u64 0, .int .i64 0, .int .u64 0, .int .u64 0]) (by simp [results, Try.results23, go_sem, q 0 _ rfl, q 1 _ rfl, q 2 _ rfl, q 3 _ rfl, q 4 _ rfl, q 5 _ rfl, q 6 _ rfl, q 7 _ rfl]) rfl ?_
            exact mat_end mat0 HM.out HG8.out HC8.out hKl hDl (.bool false) (.int .u64 0) (.int .u64 0) (.int .u64 0) (.int .u64 0) (.int .i64 0) (.int .u64 0) (.int .u64 0) _ (by simp only [mat0, hi_z, lo_z])
          · have hm : MFit 4 b ⟨true, 0, 0, 0, hh⟩ := .inr (.inr (.inr (.inr ⟨rfl, 0, hh, Nat.zero_le _, by omega, fun e => ht e.2, rfl⟩)))
            have HM := Lib.hid hm
            have htt : ¬ lo hh = TI := by rw [hlh, hTo]; omega
            have hbq : (lo hh == TI) = false := by rw [beq_eq_false_iff_ne]; exact htt
            clear hm hhe hlh hlv hTo ht
            have t0 : w8.cell? ⟨w.heap.size + 2, 0, none⟩ = some (.bool false) := blk_cell BM8.out 0 _ rfl
            have g0 := blk_froz BM8.out 0
            have t1 : w8.cell? ⟨w.heap.size + 2, 1, none⟩ = some (.int .u64 0) := blk_cell BM8.out 1 _ rfl
            have g1 := blk_froz BM8.out 1
            have t2 : w8.cell? ⟨w.heap.size + 2, 2, none⟩ = some (.int .u64 0) := blk_cell BM8.out 2 _ rfl
            have g2 := blk_froz BM8.out 2
            have t3 : w8.cell? ⟨w.heap.size + 2, 3, none⟩ = some (.int .u64 0) := blk_cell BM8.out 3 _ rfl
            have g3 := blk_froz BM8.out 3
            have t4 : w8.cell? ⟨w.heap.size + 2, 4, none⟩ = some (.int .u64 0) := blk_cell BM8.out 4 _ rfl
            have g4 := blk_froz BM8.out 4
            have t5 : w8.cell? ⟨w.heap.size + 2, 5, none⟩ = some (.int .i64 0) := blk_cell BM8.out 5 _ rfl
            have g5 := blk_froz BM8.out 5
            have t6 : w8.cell? ⟨w.heap.size + 2, 6, none⟩ = some (.int .u64 0) := blk_cell BM8.out 6 _ rfl
            have g6 := blk_froz BM8.out 6
            have t7 : w8.cell? ⟨w.heap.size + 2, 7, none⟩ = some (.int .u64 0) := blk_cell BM8.out 7 _ rfl
            have g7 := blk_froz BM8.out 7
            go_wp2_with fail
            have hq := blk_set8 BM8.out (.bool true) (.int .u64 0) (.int .u64 0) (.int .u64 0) (.int .u64 0) (.int .i64 0) (.int .u64 0) (.int .u64 (lo hh))
            have q := fun j v h => blk_cell hq j v h
            refine bodyPost_ret (v := .agg #[.bool true, .int .u64 0, .int .u64 0, .int .u64 0, .int .u64 0, .int .i64 0, .int .u64 0, .int .u64 (lo hh)]) (by simp [results, Try.results23, go_sem, q 0 _ rfl, q 1 _ rfl, q 2 _ rfl, q 3 _ rfl, q 4 _ rfl, q 5 _ rfl, q 6 _ rfl, q 7 _ rfl]) rfl ?_
            exact mat_end ⟨true, 0, 0, 0, hh⟩ HM.out HG8.out HC8.out hKl hDl (.bool true) (.int .u64 0) (.int .u64 0) (.int .u64 0) (.int .u64 0) (.int .i64 0) (.int .u64 0) (.int .u64 (lo hh)) _ (by simp only [hi_z, lo_z, HHI.out])
        · have hm : MFit 4 b ⟨true, v, 0, 0, hh⟩ := .inr (.inr (.inr (.inr ⟨rfl, v, hh, by omega, by omega, fun e => hv0 e.1, rfl⟩)))
          have HM := Lib.hid hm
          have htt : ¬ lo v = 0 := by rw [hlv]; omega
          have hbq : (lo v == 0) = false := by rw [beq_eq_false_iff_ne]; exact htt
          clear hm hhe hlh hlv hTo hv0
          have t0 : w8.cell? ⟨w.heap.size + 2, 0, none⟩ = some (.bool false) := blk_cell BM8.out 0 _ rfl
          have g0 := blk_froz BM8.out 0
          have t1 : w8.cell? ⟨w.heap.size + 2, 1, none⟩ = some (.int .u64 0) := blk_cell BM8.out 1 _ rfl
          have g1 := blk_froz BM8.out 1
          have t2 : w8.cell? ⟨w.heap.size + 2, 2, none⟩ = some (.int .u64 0) := blk_cell BM8.out 2 _ rfl
          have g2 := blk_froz BM8.out 2
          have t3 : w8.cell? ⟨w.heap.size + 2, 3, none⟩ = some (.int .u64 0) := blk_cell BM8.out 3 _ rfl
          have g3 := blk_froz BM8.out 3
          have t4 : w8.cell? ⟨w.heap.size + 2, 4, none⟩ = some (.int .u64 0) := blk_cell BM8.out 4 _ rfl
          have g4 := blk_froz BM8.out 4
          have t5 : w8.cell? ⟨w.heap.size + 2, 5, none⟩ = some (.int .i64 0) := blk_cell BM8.out 5 _ rfl
          have g5 := blk_froz BM8.out 5
          have t6 : w8.cell? ⟨w.heap.size + 2, 6, none⟩ = some (.int .u64 0) := blk_cell BM8.out 6 _ rfl
          have g6 := blk_froz BM8.out 6
          have t7 : w8.cell? ⟨w.heap.size + 2, 7, none⟩ = some (.int .u64 0) := blk_cell BM8.out 7 _ rfl
          have g7 := blk_froz BM8.out 7
          go_wp2_with fail
          have hq := blk_set8 BM8.out (.bool true) (.int .u64 (hi v)) (.int .u64 (lo v)) (.int .u64 0) (.int .u64 0) (.int .i64 0) (.int .u64 0) (.int .u64 (lo hh))
          have q := fun j v h => blk_cell hq j v h
          refine bodyPost_ret (v := .agg #[.bool true, .int .u64 (hi v), .int .u64 (lo v), .int .u64 0, .int .u64 0, .int .i64 0, .int .u64 0, .int .u64 (lo hh)]) (by simp [results, Try.results23, go_sem, q 0 _ rfl, q 1 _ rfl, q 2 _ rfl, q 3 _ rfl, q 4 _ rfl, q 5 _ rfl, q 6 _ rfl, q 7 _ rfl]) rfl ?_
          exact mat_end ⟨true, v, 0, 0, hh⟩ HM.out HG8.out HC8.out hKl hDl (.bool true) (.int .u64 (hi v)) (.int .u64 (lo v)) (.int .u64 0) (.int .u64 0) (.int .i64 0) (.int .u64 0) (.int .u64 (lo hh)) _ (by simp only [hi_z, lo_z, HHI.out])
end Go.Proofs.Ythldelnibgdnaaa
