/- Contracts, joined: GMt, GPt. -/
import Derived.Test.YtjdecoiciecfpaaGCov
import Derived.Test.YtjdecoiciecfpaaGMat
namespace Go.Proofs.Ytjdecoiciecfpaa
/- The program's Matches. -/
section
open Go.RowKit

/-- An entry matches a point. -/
def matE (fs : List FieldD) (ts : List TableD) (e : EntryD) (p : Nat → Nat) : Prop := ∃ t, tblAt ts e.table = some t ∧ e.ms.length = t.keys.length ∧ t.keys.length ≤ 4 ∧ ∀ (i : Nat) (k : KeyD) (m : MatchD), t.keys[i]? = some k → e.ms[i]? = some m → covM m k.kind (fbits fs k.field) (p i)
def pt4 (p0 p1 p2 p3 i : Nat) : Nat := [p0, p1, p2, p3].getD i 0
theorem pt4_cells (p0 p1 p2 p3 q : Nat) (hq : q < 4) : (#[.int .u64 (hi p0), .int .u64 (lo p0), .int .u64 (hi p1), .int .u64 (lo p1), .int .u64 (hi p2), .int .u64 (lo p2), .int .u64 (hi p3), .int .u64 (lo p3)] : Array Value)[q * 2]? = some (.int .u64 (hi (pt4 p0 p1 p2 p3 q))) ∧ (#[.int .u64 (hi p0), .int .u64 (lo p0), .int .u64 (hi p1), .int .u64 (lo p1), .int .u64 (hi p2), .int .u64 (lo p2), .int .u64 (hi p3), .int .u64 (lo p3)] : Array Value)[q * 2 + 1]? = some (.int .u64 (lo (pt4 p0 p1 p2 p3 q))) := by
  match q, hq with
  | 0, _ => exact ⟨rfl, rfl⟩
  | 1, _ => exact ⟨rfl, rfl⟩
  | 2, _ => exact ⟨rfl, rfl⟩
  | 3, _ => exact ⟨rfl, rfl⟩
set_option maxRecDepth 100000 in
set_option maxHeartbeats 1000000 in
theorem g_Matches (w : World) (B : Nat) (A0 : Option Addr) (n0 c0 : Nat) (fs : List FieldD) (h0 : RowV 3 FieldV B w (.slice A0 n0 c0) fs) (A4 : Option Addr) (n4 c4 : Nat) (ts : List TableD) (h4 : RowV 8 TableV B w (.slice A4 n4 c4) ts) (hB : B ≤ w.heap.size) (s1 s2 s3 s5 s6 s7 s8 s9 : Value) (e : EntryD) (A1 : Option Addr) (m1 k1 : Nat) (u : Value) (hr : RowV 8 MatchV B w (.slice A1 m1 k1) e.ms)
    (p0 p1 p2 p3 : Nat) (hp : ∀ i, pt4 p0 p1 p2 p3 i < 2 ^ 128) (b : Bool) (hb : b = true ↔ matE fs ts e (pt4 p0 p1 p2 p3)) :
    Calls Try.prog 17 #[.agg #[.slice A0 n0 c0, s1, s2, s3, .slice A4 n4 c4, s5, s6, s7, s8, s9], .agg #[.int .i64 e.table, .slice A1 m1 k1, .int .i64 e.prio, .int .i64 e.action, u], .agg #[.int .u64 (hi p0), .int .u64 (lo p0), .int .u64 (hi p1), .int .u64 (lo p1), .int .u64 (hi p2), .int .u64 (lo p2), .int .u64 (hi p3), .int .u64 (lo p3)]] w (RetX (.bool b) w) := by
  obtain ⟨hn1, hc1, hm1⟩ := hr.len
  obtain ⟨W0, hW0⟩ : ∃ W, W = (((w.alloc (.cells #[.slice A0 n0 c0, s1, s2, s3, .slice A4 n4 c4, s5, s6, s7, s8, s9] 45)).alloc (.cells #[.int .i64 e.table, .slice A1 m1 k1, .int .i64 e.prio, .int .i64 e.action, u] 51)).alloc (.cells #[.int .u64 (hi p0), .int .u64 (lo p0), .int .u64 (hi p1), .int .u64 (lo p1), .int .u64 (hi p2), .int .u64 (lo p2), .int .u64 (hi p3), .int .u64 (lo p3)] 29)) := ⟨_, rfl⟩
  have hB0 : Below w.heap.size w W0 := by rw [hW0]; exact ((((Below.refl w.heap.size w).alloc (by simp <;> omega) _).alloc (by simp <;> omega) _).alloc (by simp <;> omega) _)
  have hz0 : W0.heap.size = w.heap.size + 3 := by rw [hW0]; simp
  have b0_0 : W0.heap[w.heap.size]? = some (.cells #[.slice A0 n0 c0, s1, s2, s3, .slice A4 n4 c4, s5, s6, s7, s8, s9] 45 (0, 0)) := by
    rw [hW0]
    exact ((((Below.refl (w.alloc (.cells #[.slice A0 n0 c0, s1, s2, s3, .slice A4 n4 c4, s5, s6, s7, s8, s9] 45)).heap.size (w.alloc (.cells #[.slice A0 n0 c0, s1, s2, s3, .slice A4 n4 c4, s5, s6, s7, s8, s9] 45))).alloc (by simp <;> omega) _).alloc (by simp <;> omega) _).block w.heap.size (by simp)).trans (heap_alloc_new _ _)
  have b0_1 : W0.heap[w.heap.size + 1]? = some (.cells #[.int .i64 e.table, .slice A1 m1 k1, .int .i64 e.prio, .int .i64 e.action, u] 51 (0, 0)) := by
    rw [hW0]
    rw [show w.heap.size + 1 = (w.alloc (.cells #[.slice A0 n0 c0, s1, s2, s3, .slice A4 n4 c4, s5, s6, s7, s8, s9] 45)).heap.size by simp]
    exact (((Below.refl ((w.alloc (.cells #[.slice A0 n0 c0, s1, s2, s3, .slice A4 n4 c4, s5, s6, s7, s8, s9] 45)).alloc (.cells #[.int .i64 e.table, .slice A1 m1 k1, .int .i64 e.prio, .int .i64 e.action, u] 51)).heap.size ((w.alloc (.cells #[.slice A0 n0 c0, s1, s2, s3, .slice A4 n4 c4, s5, s6, s7, s8, s9] 45)).alloc (.cells #[.int .i64 e.table, .slice A1 m1 k1, .int .i64 e.prio, .int .i64 e.action, u] 51))).alloc (by simp <;> omega) _).block (w.alloc (.cells #[.slice A0 n0 c0, s1, s2, s3, .slice A4 n4 c4, s5, s6, s7, s8, s9] 45)).heap.size (by simp)).trans (heap_alloc_new _ _)
  have b0_2 : W0.heap[w.heap.size + 2]? = some (.cells #[.int .u64 (hi p0), .int .u64 (lo p0), .int .u64 (hi p1), .int .u64 (lo p1), .int .u64 (hi p2), .int .u64 (lo p2), .int .u64 (hi p3), .int .u64 (lo p3)] 29 (0, 0)) := by
    rw [hW0]
    rw [show w.heap.size + 2 = ((w.alloc (.cells #[.slice A0 n0 c0, s1, s2, s3, .slice A4 n4 c4, s5, s6, s7, s8, s9] 45)).alloc (.cells #[.int .i64 e.table, .slice A1 m1 k1, .int .i64 e.prio, .int .i64 e.action, u] 51)).heap.size by simp]
    exact heap_alloc_new _ _
  have KX := Lib.hid (g_tableOf W0 B A4 n4 c4 ts (h4.below kept_table (hB0.mono hB)) (Nat.le_trans hB hB0.size) (.slice A0 n0 c0) s1 s2 s3 s5 s6 s7 s8 s9 (.slice A1 m1 k1) (.int .i64 e.prio) (.int .i64 e.action) u e.table)
  have HR0 := Lib.hid h0
  have HRM := Lib.hid hr
  have HB0 := Lib.hid hB0
  have HW0 := Lib.hid hW0
  have BB0 := Lib.hid b0_0
  have BB1 := Lib.hid b0_1
  have BBP := Lib.hid b0_2
  have HPR := Lib.hid hb
  have HPP := Lib.hid hp
  have x0 : W0.cell? ⟨w.heap.size, 0, none⟩ = some (.slice A0 n0 c0) := blk_cell b0_0 0 _ rfl
  have x1 : W0.cell? ⟨w.heap.size, 1, none⟩ = some (s1) := blk_cell b0_0 1 _ rfl
  have x2 : W0.cell? ⟨w.heap.size, 2, none⟩ = some (s2) := blk_cell b0_0 2 _ rfl
  have x3 : W0.cell? ⟨w.heap.size, 3, none⟩ = some (s3) := blk_cell b0_0 3 _ rfl
  have x4 : W0.cell? ⟨w.heap.size, 4, none⟩ = some (.slice A4 n4 c4) := blk_cell b0_0 4 _ rfl
  have x5 : W0.cell? ⟨w.heap.size, 5, none⟩ = some (s5) := blk_cell b0_0 5 _ rfl
  have x6 : W0.cell? ⟨w.heap.size, 6, none⟩ = some (s6) := blk_cell b0_0 6 _ rfl
  have x7 : W0.cell? ⟨w.heap.size, 7, none⟩ = some (s7) := blk_cell b0_0 7 _ rfl
  have x8 : W0.cell? ⟨w.heap.size, 8, none⟩ = some (s8) := blk_cell b0_0 8 _ rfl
  have x9 : W0.cell? ⟨w.heap.size, 9, none⟩ = some (s9) := blk_cell b0_0 9 _ rfl
  have y0 : W0.cell? ⟨w.heap.size + 1, 0, none⟩ = some (.int .i64 e.table) := blk_cell b0_1 0 _ rfl
  have y1 : W0.cell? ⟨w.heap.size + 1, 1, none⟩ = some (.slice A1 m1 k1) := blk_cell b0_1 1 _ rfl
  have y2 : W0.cell? ⟨w.heap.size + 1, 2, none⟩ = some (.int .i64 e.prio) := blk_cell b0_1 2 _ rfl
  have y3 : W0.cell? ⟨w.heap.size + 1, 3, none⟩ = some (.int .i64 e.action) := blk_cell b0_1 3 _ rfl
  have y4 : W0.cell? ⟨w.heap.size + 1, 4, none⟩ = some (u) := blk_cell b0_1 4 _ rfl
  clear h0 h4 hr hB0 hW0 b0_0 b0_1 b0_2 hb hp
  go_enter Try.func17, Try.ntmps17
  go_upto_region 1 with fail
  rw [← HW0.out]
  go_wp2_with fail
  with_reducible refine KX.out.mono ?_
  rintro en w1 ⟨vk, va, vr, rfl, rk, ra, rr, hb1⟩
  obtain ⟨Ak, nk, ck, rfl, hnk, hck, hmk⟩ := rk.parts
  obtain ⟨Aa, na, ca, rfl, _⟩ := ra.parts
  obtain ⟨Ar, nr, cr, rfl, _⟩ := rr.parts
  have hz1 : w.heap.size + 3 ≤ w1.heap.size := by have := hb1.size; omega
  obtain ⟨tb, htb⟩ : ∃ tb, tb = tabOr ts e.table := ⟨_, rfl⟩
  have HTB := Lib.hid htb
  rw [← htb] at rk hnk ⊢
  obtain ⟨W2, hW2⟩ : ∃ W, W = w1.alloc (.cells #[.int .i64 tb.id, .string (strL tb.name), .slice Ak nk ck, .slice Aa na ca, .int .i64 tb.dflt, .slice Ar nr cr, .int .i64 tb.size, .string (strL tb.restr)] 111) := ⟨_, rfl⟩
  have hb2 : Below w1.heap.size w1 W2 := by rw [hW2]; exact (Below.refl _ _).alloc (Nat.le_refl _) _
  have hz2 : W2.heap.size = w1.heap.size + 1 := by rw [hW2]; simp
  have bt2 : W2.heap[w1.heap.size]? = some (.cells #[.int .i64 tb.id, .string (strL tb.name), .slice Ak nk ck, .slice Aa na ca, .int .i64 tb.dflt, .slice Ar nr cr, .int .i64 tb.size, .string (strL tb.restr)] 111 (0, 0)) := by rw [hW2]; exact heap_alloc_new _ _
  have hb12 := hb1.trans (hb2.mono hb1.size)
  have BS2 := Lib.hid ((hb12.block w.heap.size (by omega)).trans BB0.out)
  have BE2 := Lib.hid ((hb12.block (w.heap.size + 1) (by omega)).trans BB1.out)
  have BP2 := Lib.hid ((hb12.block (w.heap.size + 2) (by omega)).trans BBP.out)
  have HB2 := Lib.hid (HB0.out.trans (hb12.mono HB0.out.size))
  have HRK := Lib.hid (rk.below kept_key (hb2.mono (by omega : B ≤ w1.heap.size)))
  have HW2 := Lib.hid hW2
  have BT2 := Lib.hid bt2
  clear rk ra rr hb1 hW2 hb2 bt2 hb12 htb KX x0 x1 x2 x3 x4 x5 x6 x7 x8 x9 y0 y1 y2 y3 y4
  rcases tbl_is ts e.table with ⟨-, et⟩ | ⟨j, t, -, -, -, et⟩
  · obtain rfl : b = false := bool_no HPR.out (fun ⟨t, ht, _⟩ => by rw [et] at ht; cases ht)
    rw [et]
    clear et
    go_upto_region 2 with fail
    rw [← HW2.out]
    go_wp2_with fail
    go_ret
    exact ⟨rfl, HB2.out⟩
  · obtain rfl : tb = t := by rw [HTB.out]; unfold tabOr; rw [et]; rfl
    have hval : b = true ↔ (e.ms.length = tb.keys.length ∧ tb.keys.length ≤ 4 ∧ ∀ (i : Nat) (k : KeyD) (m : MatchD), tb.keys[i]? = some k → e.ms[i]? = some m → covM m k.kind (fbits fs k.field) (pt4 p0 p1 p2 p3 i)) := HPR.out.trans ⟨fun ⟨t, ht, h⟩ => by rw [et] at ht; injection ht with ht; subst ht; exact h, fun h => ⟨tb, et, h⟩⟩
    have HV := Lib.hid hval
    rw [et]
    clear et hval HTB HPR
    have y1 : W2.cell? ⟨w.heap.size + 1, 1, none⟩ = some (.slice A1 m1 k1) := blk_cell BE2.out 1 _ rfl
    have z2 : W2.cell? ⟨w1.heap.size, 2, none⟩ = some (.slice Ak nk ck) := blk_cell BT2.out 2 _ rfl
    by_cases hl : m1 = nk
    · have hlI : (m1 : Int) = (nk : Int) := by omega
      have hll : e.ms.length = tb.keys.length := by rw [← hn1.out, ← hnk.out, hl]
      by_cases h4 : nk ≤ 4
      · have h4I : ¬ (4 : Int) < (nk : Int) := by omega
        have HLL := Lib.hid hll
        have HL4 := Lib.hid h4
        subst hl
        clear hll
        go_upto_region 2 with fail
        rw [← HW2.out]
        go_wp2_with fail
        go_loopw [37] (fun i W => ∃ q : Nat, q ≤ m1 ∧ i = .int .i64 q ∧ Below W2.heap.size W2 W ∧ Hid (∀ (i : Nat) (k : KeyD) (m : MatchD), i < q → tb.keys[i]? = some k → e.ms[i]? = some m → covM m k.kind (fbits fs k.field) (pt4 p0 p1 p2 p3 i))) (fun i _ => m1 - (intOf i).toNat)
        case atStart => exact ⟨0, by omega, rfl, Below.refl _ _, Lib.hid fun i _ _ hi => absurd hi (by omega)⟩
        case round =>
          clear y1 z2
          obtain ⟨q, hq, rfl, hbq, hxh⟩ := hrel
          have HBQ := Lib.hid hbq
          have hzr := hbq.size
          have bsr := (hbq.block w.heap.size (by omega)).trans BS2.out
          have ber := (hbq.block (w.heap.size + 1) (by omega)).trans BE2.out
          have bpr := (hbq.block (w.heap.size + 2) (by omega)).trans BP2.out
          by_cases hlt : q < m1
          · have hkI : (q : Int) < (m1 : Int) := by omega
            have hkc : (q : Int) < (ck : Int) := by omega
            have hkc1 : (q : Int) < (k1 : Int) := by omega
            have hk0 : 0 ≤ (q : Int) := by omega
            have hk4 : (q : Int) < 4 := by omega
            have hBw : Below B w wr := (HB2.out.mono hB).trans (hbq.mono (by have := HB2.out.size; omega))
            obtain ⟨kb, ko, e1, k, hkk, _, cs, hcs, hV⟩ := row_at (HRK.out.below kept_key (hbq.mono (by have := HB2.out.size; omega))) (q := q) (by rw [← hnk.out]; exact hlt)
            obtain ⟨mb, mo, e2, m, hmm, hmbB, ds, hds, hVM⟩ := row_at (HRM.out.below kept_match hBw) (q := q) (by rw [← hn1.out]; exact hlt)
            obtain ⟨rfl, -⟩ := hV
            obtain ⟨rfl, hmok⟩ := hVM
            subst e1
            subst e2
            have d0 : wr.cell? ⟨kb, ko + q * 3, none⟩ = some _ := hcs.at0 _ rfl
            have d1 : wr.cell? ⟨kb, ko + q * 3 + 1, none⟩ = some _ := hcs.at 1 _ rfl
            have d2 : wr.cell? ⟨kb, ko + q * 3 + 2, none⟩ = some _ := hcs.at 2 _ rfl
            obtain ⟨v, hv⟩ : ∃ v, v = pt4 p0 p1 p2 p3 q := ⟨_, rfl⟩
            have hv8 : v < 2 ^ 128 := by rw [hv]; exact HPP.out q
            have HVC := Lib.hid (pt4_cells p0 p1 p2 p3 q (by omega))
            rw [← hv] at HVC
            obtain ⟨W3, hW3⟩ : ∃ W, W = wr.alloc (.cells #[.string (strL k.name), .int .i64 k.field, .int .i64 k.kind] 113) := ⟨_, rfl⟩
            have hb3 : Below wr.heap.size wr W3 := by rw [hW3]; exact (Below.refl _ _).alloc (Nat.le_refl _) _
            have hz3 : W3.heap.size = wr.heap.size + 1 := by rw [hW3]; simp
            have bk3 : W3.heap[wr.heap.size]? = some (.cells #[.string (strL k.name), .int .i64 k.field, .int .i64 k.kind] 113 (0, 0)) := by rw [hW3]; exact heap_alloc_new _ _
            have HDS := Lib.hid hds
            have HKS : Hid (∀ w', Below W3.heap.size W3 w' → Below W3.heap.size W3 w' ∧ w'.cell? ⟨w.heap.size, 0, none⟩ = some (.slice A0 n0 c0) ∧ w'.cell? ⟨w.heap.size, 1, none⟩ = some (s1) ∧ w'.cell? ⟨w.heap.size, 2, none⟩ = some (s2) ∧ w'.cell? ⟨w.heap.size, 3, none⟩ = some (s3) ∧ w'.cell? ⟨w.heap.size, 4, none⟩ = some (.slice A4 n4 c4) ∧ w'.cell? ⟨w.heap.size, 5, none⟩ = some (s5) ∧ w'.cell? ⟨w.heap.size, 6, none⟩ = some (s6) ∧ w'.cell? ⟨w.heap.size, 7, none⟩ = some (s7) ∧ w'.cell? ⟨w.heap.size, 8, none⟩ = some (s8) ∧ w'.cell? ⟨w.heap.size, 9, none⟩ = some (s9) ∧ w'.cell? ⟨w.heap.size + 1, 0, none⟩ = some (.int .i64 e.table) ∧ w'.cell? ⟨w.heap.size + 1, 1, none⟩ = some (.slice (some ⟨mb, mo, none⟩) m1 k1) ∧ w'.cell? ⟨w.heap.size + 1, 2, none⟩ = some (.int .i64 e.prio) ∧ w'.cell? ⟨w.heap.size + 1, 3, none⟩ = some (.int .i64 e.action) ∧ w'.cell? ⟨w.heap.size + 1, 4, none⟩ = some (u) ∧ w'.cell? ⟨wr.heap.size, 0, none⟩ = some (.string (strL k.name)) ∧ w'.cell? ⟨wr.heap.size, 1, none⟩ = some (.int .i64 k.field) ∧ w'.cell? ⟨wr.heap.size, 2, none⟩ = some (.int .i64 k.kind) ∧ w'.cell? ⟨mb, mo + q * 8, none⟩ = some (.bool m.pres) ∧ w'.cell? ⟨mb, mo + q * 8 + 1, none⟩ = some (.int .u64 (hi m.val)) ∧ w'.cell? ⟨mb, mo + q * 8 + 2, none⟩ = some (.int .u64 (lo m.val)) ∧ w'.cell? ⟨mb, mo + q * 8 + 3, none⟩ = some (.int .u64 (hi m.mask)) ∧ w'.cell? ⟨mb, mo + q * 8 + 4, none⟩ = some (.int .u64 (lo m.mask)) ∧ w'.cell? ⟨mb, mo + q * 8 + 5, none⟩ = some (.int .i64 m.pre) ∧ w'.cell? ⟨mb, mo + q * 8 + 6, none⟩ = some (.int .u64 (hi m.high)) ∧ w'.cell? ⟨mb, mo + q * 8 + 7, none⟩ = some (.int .u64 (lo m.high)) ∧ w'.cell? ⟨w.heap.size + 2, q * 2, none⟩ = some (.int .u64 (hi v)) ∧ w'.cell? ⟨w.heap.size + 2, q * 2 + 1, none⟩ = some (.int .u64 (lo v))) := Lib.hid fun w' hb => by
              have hb' := hb3.trans (hb.mono hb3.size)
              have q0 := (hb'.block w.heap.size (by omega)).trans bsr
              have q1 := (hb'.block (w.heap.size + 1) (by omega)).trans ber
              have q2 := (hb.block wr.heap.size (by omega)).trans bk3
              have q3 := (hb'.block (w.heap.size + 2) (by omega)).trans bpr
              have qm : ∀ j v, [.bool m.pres, .int .u64 (hi m.val), .int .u64 (lo m.val), .int .u64 (hi m.mask), .int .u64 (lo m.mask), .int .i64 m.pre, .int .u64 (hi m.high), .int .u64 (lo m.high)][j]? = some v → w'.cell? ⟨mb, mo + q * 8 + j, none⟩ = some v := fun j v e => by
                rw [hb'.cell (p := ⟨mb, mo + q * 8 + j, none⟩) (show mb < wr.heap.size by omega)]
                exact HDS.out.at j v e
              exact ⟨hb, blk_cell q0 0 _ rfl, blk_cell q0 1 _ rfl, blk_cell q0 2 _ rfl, blk_cell q0 3 _ rfl, blk_cell q0 4 _ rfl, blk_cell q0 5 _ rfl, blk_cell q0 6 _ rfl, blk_cell q0 7 _ rfl, blk_cell q0 8 _ rfl, blk_cell q0 9 _ rfl, blk_cell q1 0 _ rfl, blk_cell q1 1 _ rfl, blk_cell q1 2 _ rfl, blk_cell q1 3 _ rfl, blk_cell q1 4 _ rfl, blk_cell q2 0 _ rfl, blk_cell q2 1 _ rfl, blk_cell q2 2 _ rfl, qm 0 _ rfl, qm 1 _ rfl, qm 2 _ rfl, qm 3 _ rfl, qm 4 _ rfl, qm 5 _ rfl, qm 6 _ rfl, qm 7 _ rfl, blk_cell q3 (q * 2) _ HVC.out.1, blk_cell q3 (q * 2 + 1) _ HVC.out.2⟩
            have KB : Hid (∀ W, Below W3.heap.size W3 W → Calls Try.prog 57 #[.agg #[.slice A0 n0 c0, s1, s2, s3, .slice A4 n4 c4, s5, s6, s7, s8, s9], .agg #[.string (strL k.name), .int .i64 k.field, .int .i64 k.kind]] W (RetX (.int .i64 (fbits fs k.field)) W)) := Lib.hid fun W hb =>
              g_bitsOf W B A0 n0 c0 fs (HR0.out.below kept_field (hBw.trans ((hb3.mono (by omega)).trans (hb.mono (by omega))))) (by have := hb.size; omega) s1 s2 s3 (.slice A4 n4 c4) s5 s6 s7 s8 s9 (strL k.name) k.field k.kind
            obtain ⟨C, hC⟩ := some_bool (covM m k.kind (fbits fs k.field) v)
            have KC : Hid (∀ W, Calls Try.prog 11 #[.agg #[.bool m.pres, .int .u64 (hi m.val), .int .u64 (lo m.val), .int .u64 (hi m.mask), .int .u64 (lo m.mask), .int .i64 m.pre, .int .u64 (hi m.high), .int .u64 (lo m.high)], .int .i64 k.kind, .int .i64 (fbits fs k.field), .agg #[.int .u64 (hi v), .int .u64 (lo v)]] W (RetX (.bool C) W)) := Lib.hid fun W => by rw [← dec_of hC]; exact g_Covers m hmok k.kind (fbits fs k.field) v hv8 W
            rw [hv] at hC
            have HC := Lib.hid hC
            have HW3 := Lib.hid hW3
            have HKK := Lib.hid (And.intro hkk hmm)
            have HB3 := Lib.hid (hbq.trans (hb3.mono hzr))
            clear hC hcs hds hkk hmm hW3 hb3 bk3 hBw bsr ber bpr hbq hmok hv hv8
            go_upto_region 7 with fail
            rw [← HW3.out]
            clear d0 d1 d2
            go_region_held3 (fun w' => Below W3.heap.size W3 w' ∧ w'.cell? ⟨w.heap.size, 0, none⟩ = some (.slice A0 n0 c0) ∧ w'.cell? ⟨w.heap.size, 1, none⟩ = some (s1) ∧ w'.cell? ⟨w.heap.size, 2, none⟩ = some (s2) ∧ w'.cell? ⟨w.heap.size, 3, none⟩ = some (s3) ∧ w'.cell? ⟨w.heap.size, 4, none⟩ = some (.slice A4 n4 c4) ∧ w'.cell? ⟨w.heap.size, 5, none⟩ = some (s5) ∧ w'.cell? ⟨w.heap.size, 6, none⟩ = some (s6) ∧ w'.cell? ⟨w.heap.size, 7, none⟩ = some (s7) ∧ w'.cell? ⟨w.heap.size, 8, none⟩ = some (s8) ∧ w'.cell? ⟨w.heap.size, 9, none⟩ = some (s9) ∧ w'.cell? ⟨w.heap.size + 1, 0, none⟩ = some (.int .i64 e.table) ∧ w'.cell? ⟨w.heap.size + 1, 1, none⟩ = some (.slice (some ⟨mb, mo, none⟩) m1 k1) ∧ w'.cell? ⟨w.heap.size + 1, 2, none⟩ = some (.int .i64 e.prio) ∧ w'.cell? ⟨w.heap.size + 1, 3, none⟩ = some (.int .i64 e.action) ∧ w'.cell? ⟨w.heap.size + 1, 4, none⟩ = some (u) ∧ w'.cell? ⟨wr.heap.size, 0, none⟩ = some (.string (strL k.name)) ∧ w'.cell? ⟨wr.heap.size, 1, none⟩ = some (.int .i64 k.field) ∧ w'.cell? ⟨wr.heap.size, 2, none⟩ = some (.int .i64 k.kind) ∧ w'.cell? ⟨mb, mo + q * 8, none⟩ = some (.bool m.pres) ∧ w'.cell? ⟨mb, mo + q * 8 + 1, none⟩ = some (.int .u64 (hi m.val)) ∧ w'.cell? ⟨mb, mo + q * 8 + 2, none⟩ = some (.int .u64 (lo m.val)) ∧ w'.cell? ⟨mb, mo + q * 8 + 3, none⟩ = some (.int .u64 (hi m.mask)) ∧ w'.cell? ⟨mb, mo + q * 8 + 4, none⟩ = some (.int .u64 (lo m.mask)) ∧ w'.cell? ⟨mb, mo + q * 8 + 5, none⟩ = some (.int .i64 m.pre) ∧ w'.cell? ⟨mb, mo + q * 8 + 6, none⟩ = some (.int .u64 (hi m.high)) ∧ w'.cell? ⟨mb, mo + q * 8 + 7, none⟩ = some (.int .u64 (lo m.high)) ∧ w'.cell? ⟨w.heap.size + 2, q * 2, none⟩ = some (.int .u64 (hi v)) ∧ w'.cell? ⟨w.heap.size + 2, q * 2 + 1, none⟩ = some (.int .u64 (lo v)))
              (first
                | exact HKS.out _ (Below.drew (Below.refl _ _))
                | exact HKS.out _ (below_call (And.left (by assumption)) (by assumption))
                | assumption)
              (first
                | (go_at_call 57; (with_reducible refine (KB.out _ (And.left (by assumption))).mono ?_); rintro en v1 ⟨rfl, hv1⟩)
                | (go_at_call 11; (with_reducible refine (KC.out _).mono ?_); rintro en v2 ⟨rfl, hv2⟩))
            cases C
            · have hbF : b = false := bool_no HV.out (fun h => by
                have := HC.out.2 (h.2.2 q k m HKK.out.1 HKK.out.2)
                exact absurd this (by decide))
              subst hbF
              all_goals go_wp2_with fail
              all_goals go_ret
              all_goals exact ⟨rfl, HB2.out.trans ((HB3.out.trans ((And.left (by assumption : Below W3.heap.size W3 _ ∧ _)).mono HB3.out.size)).mono HB2.out.size)⟩
            · have HX2 : Hid (∀ (i : Nat) (k : KeyD) (m : MatchD), i < q + 1 → tb.keys[i]? = some k → e.ms[i]? = some m → covM m k.kind (fbits fs k.field) (pt4 p0 p1 p2 p3 i)) := Lib.hid fun i k' m' hi hk' hm' => by
                rcases Nat.lt_or_ge i q with h | h
                · exact hxh.out i k' m' h hk' hm'
                · obtain rfl : i = q := by omega
                  rw [HKK.out.1] at hk'
                  rw [HKK.out.2] at hm'
                  injection hk' with hk'
                  injection hm' with hm'
                  subst hk'
                  subst hm'
                  exact HC.out.1 rfl
              all_goals go_wp2_with fail
              all_goals go_roundw
              all_goals have hBZ := And.left (by assumption : Below W3.heap.size W3 _ ∧ _)
              all_goals go_light
              case measure => simp [intOf]; omega
              case rel => exact ⟨q + 1, by omega, by simp, HB3.out.trans (hBZ.mono HB3.out.size), HX2⟩
          · obtain rfl : m1 = q := by omega
            have hbT : b = true := HV.out.2 ⟨HLL.out, by rw [← hnk.out]; exact HL4.out, fun i k m hk hm => hxh.out i k m (by rw [hnk.out]; exact (List.getElem?_eq_some_iff.1 hk).1) hk hm⟩
            subst hbT
            have hkI : ¬ (m1 : Int) < (m1 : Int) := by omega
            have HBZ := Lib.hid (HB2.out.trans (hbq.mono HB2.out.size))
            clear hxh bsr ber bpr hbq
            go_wp2_with fail
            go_ret
            exact ⟨rfl, HBZ.out⟩
      · have h4I : (4 : Int) < (nk : Int) := by omega
        obtain rfl : b = false := bool_no HV.out (fun h => h4 (by rw [hnk.out]; exact h.2.1))
        clear HV hll h4
        go_upto_region 2 with fail
        rw [← HW2.out]
        go_wp2_with fail
        go_ret
        exact ⟨rfl, HB2.out⟩
    · have hlI : ¬ (m1 : Int) = (nk : Int) := by omega
      obtain rfl : b = false := bool_no HV.out (fun h => hl (by rw [hn1.out, hnk.out]; exact h.1))
      clear HV
      go_upto_region 2 with fail
      rw [← HW2.out]
      go_wp2_with fail
      go_ret
      exact ⟨rfl, HB2.out⟩
end
/- A point out of choices. -/
section
open Go.RowKit

def pcs (x : Nat → Nat) : List Value := [.int .u64 0, .int .u64 (x 0 : Nat), .int .u64 0, .int .u64 (x 1 : Nat), .int .u64 0, .int .u64 (x 2 : Nat), .int .u64 0, .int .u64 (x 3 : Nat)]
theorem pcs_len (x : Nat → Nat) : (pcs x).length = 8 := rfl
theorem pcs_set (x : Nat → Nat) (q v : Nat) (hq : q < 4) : (((pcs x).set (q * 2) (.int .u64 0)).set (q * 2 + 1) (.int .u64 (v : Nat))) = pcs (fun i => if i = q then v else x i) := by
  match q, hq with
  | 0, _ => rfl
  | 1, _ => rfl
  | 2, _ => rfl
  | 3, _ => rfl
theorem pcs_set1 (x : Nat → Nat) (q v : Nat) (hq : q < 4) : ((pcs x).set (q * 2 + 1) (.int .u64 (v : Nat))) = pcs (fun i => if i = q then v else x i) := by
  match q, hq with
  | 0, _ => rfl
  | 1, _ => rfl
  | 2, _ => rfl
  | 3, _ => rfl
theorem pcs_at (x : Nat → Nat) (q : Nat) (hq : q < 4) : (pcs x)[q * 2]? = some (.int .u64 0) ∧ (pcs x)[q * 2 + 1]? = some (.int .u64 (x q : Nat)) := by
  match q, hq with
  | 0, _ => exact ⟨rfl, rfl⟩
  | 1, _ => exact ⟨rfl, rfl⟩
  | 2, _ => exact ⟨rfl, rfl⟩
  | 3, _ => exact ⟨rfl, rfl⟩
theorem Bx.at {K L : Nat} {cs : List Value} {W : World} (h : Bx K L cs W) (j : Nat) (v : Value) (hj : cs[j]? = some v) : W.cell? ⟨L, j, none⟩ = some v := by
  obtain ⟨a, b⟩ := List.getElem?_eq_some_iff.1 hj
  rw [h.c j a, b]
structure PInv (K D : Nat) (l : List Nat) (w W : World) (x : Nat → Nat) : Prop where
  b0 : Bx K w.heap.size [.int .u64 0, .int .u64 0, .int .u64 0, .int .u64 0, .int .u64 0, .int .u64 0, .int .u64 0, .int .u64 0] W
  b1 : Bx K (w.heap.size + 1) (pcs x) W
  lt : ∀ i, x i < 18446744073709551616
  gr : w.grownBy W (some K)
  co : ∃ p, CoAt K D l p W
def RetPoint (K D : Nat) (l : List Nat) (w : World) (en : Ending) (w' : World) : Prop := ∃ x : Nat → Nat, en = .returned (.agg #[.int .u64 0, .int .u64 (x 0 : Nat), .int .u64 0, .int .u64 (x 1 : Nat), .int .u64 0, .int .u64 (x 2 : Nat), .int .u64 0, .int .u64 (x 3 : Nat)]) ∧ (∀ i, x i < 18446744073709551616) ∧ w.grownBy w' (some K) ∧ ∃ p, CoAt K D l p w'
theorem or_nat (a b : Nat) (ha : a < 18446744073709551616) (hb : b < 18446744073709551616) : bits .or .u64 (a : Int) (b : Int) = ((a ||| b : Nat) : Int) ∧ a ||| b < 18446744073709551616 := by
  have h : a ||| b < 18446744073709551616 := by
    rw [p64] at ha hb ⊢
    exact Nat.or_lt_two_pow ha hb
  have := or_lo a b
  rw [lo_small ha, lo_small hb, lo_small h] at this
  exact ⟨this, h⟩
theorem u64_mod (n : Nat) : IntKind.u64.wrap (n : Int) = ((n % 18446744073709551616 : Nat) : Int) := by
  show (n : Int) % 18446744073709551616 = _
  omega
theorem PInv.put {K D : Nat} {l : List Nat} {w W : World} {x : Nat → Nat} (h : PInv K D l w W x) (hK : K < w.heap.size) (hD : l ≠ [] → D < w.heap.size) (q v : Nat) (hq : q < 4) (hv : v < 18446744073709551616) : PInv K D l w (W.setCell ⟨w.heap.size + 1, q * 2 + 1, none⟩ (.int .u64 (v : Nat))) (fun i => if i = q then v else x i) := by
  have g8 := grown_set W (w.heap.size + 1) (q * 2 + 1) (.int .u64 (v : Nat))
  obtain ⟨p, hc⟩ := h.co
  refine ⟨h.b0.kept g8 (fun e => by injection e with e; omega), ?_, fun i => ?_, grown_newM h.gr g8 (by omega), p, hc.kept g8 (fun e => by injection e with e; omega) (fun h2 e => by have := hD h2; injection e with e; omega)⟩
  · rw [← pcs_set1 x q v hq]
    exact h.b1.set (q * 2 + 1) _
  · show (if i = q then v else x i) < _
    split
    · exact hv
    · exact h.lt i
theorem u64_wrap_mul (n : Nat) : IntKind.u64.wrap ((n : Int) * 16777216) = ((n * 16777216 % 18446744073709551616 : Nat) : Int) := by
  show ((n : Int) * 16777216) % 18446744073709551616 = _
  omega
set_option maxRecDepth 100000 in
set_option maxHeartbeats 1000000 in
theorem cs_point (w : World) (K D p0 : Nat) (l : List Nat) (hco : CoAt K D l p0 w) : Calls Try.prog 16 #[.pointer (some ⟨K, 0, none⟩)] w (RetPoint K D l w) := by
  have hKl := hco.lt
  have hDl := hco.dlt
  obtain ⟨W0, hW0⟩ : ∃ W, W = ((w.alloc (.cells #[.int .u64 0, .int .u64 0, .int .u64 0, .int .u64 0, .int .u64 0, .int .u64 0, .int .u64 0, .int .u64 0] 29)).alloc (.cells #[.int .u64 0, .int .u64 0, .int .u64 0, .int .u64 0, .int .u64 0, .int .u64 0, .int .u64 0, .int .u64 0] 29)) := ⟨_, rfl⟩
  have hB0 : Below w.heap.size w W0 := by rw [hW0]; exact (((Below.refl w.heap.size w).alloc (by simp <;> omega) _).alloc (by simp <;> omega) _)
  have hz0 : W0.heap.size = w.heap.size + 2 := by rw [hW0]; simp
  have b0_0 : W0.heap[w.heap.size]? = some (.cells #[.int .u64 0, .int .u64 0, .int .u64 0, .int .u64 0, .int .u64 0, .int .u64 0, .int .u64 0, .int .u64 0] 29 (0, 0)) := by
    rw [hW0]
    exact (((Below.refl (w.alloc (.cells #[.int .u64 0, .int .u64 0, .int .u64 0, .int .u64 0, .int .u64 0, .int .u64 0, .int .u64 0, .int .u64 0] 29)).heap.size (w.alloc (.cells #[.int .u64 0, .int .u64 0, .int .u64 0, .int .u64 0, .int .u64 0, .int .u64 0, .int .u64 0, .int .u64 0] 29))).alloc (by simp <;> omega) _).block w.heap.size (by simp)).trans (heap_alloc_new _ _)
  have b0_1 : W0.heap[w.heap.size + 1]? = some (.cells #[.int .u64 0, .int .u64 0, .int .u64 0, .int .u64 0, .int .u64 0, .int .u64 0, .int .u64 0, .int .u64 0] 29 (0, 0)) := by
    rw [hW0]
    rw [show w.heap.size + 1 = (w.alloc (.cells #[.int .u64 0, .int .u64 0, .int .u64 0, .int .u64 0, .int .u64 0, .int .u64 0, .int .u64 0, .int .u64 0] 29)).heap.size by simp]
    exact heap_alloc_new _ _
  have bx1 : Bx K (w.heap.size + 1) (pcs fun _ => 0) W0 := ⟨by omega, by omega, fun j hj => blk_cell b0_1 j _ (by
      have hj8 : j < 8 := hj
      match j, hj8 with
      | 0, _ => rfl
      | 1, _ => rfl
      | 2, _ => rfl
      | 3, _ => rfl
      | 4, _ => rfl
      | 5, _ => rfl
      | 6, _ => rfl
      | 7, _ => rfl
      | (j + 8), h => exact absurd h (by omega)), fun j => blk_froz b0_1 j⟩
  have bx0 : Bx K w.heap.size [.int .u64 0, .int .u64 0, .int .u64 0, .int .u64 0, .int .u64 0, .int .u64 0, .int .u64 0, .int .u64 0] W0 := ⟨by omega, by omega, fun j hj => blk_cell b0_0 j _ (by
      have hj8 : j < 8 := hj
      match j, hj8 with
      | 0, _ => rfl
      | 1, _ => rfl
      | 2, _ => rfl
      | 3, _ => rfl
      | 4, _ => rfl
      | 5, _ => rfl
      | 6, _ => rfl
      | 7, _ => rfl
      | (j + 8), h => exact absurd h (by omega)), fun j => blk_froz b0_0 j⟩
  have hI : PInv K D l w W0 (fun _ => 0) := ⟨bx0, bx1, fun _ => by decide, grown_of_below hB0 (some K), _, hco.belowC hB0⟩
  have HI := Lib.hid hI
  have HW0 := Lib.hid hW0
  clear hI bx0 bx1 b0_0 b0_1 hB0 hW0 hco
  go_enter Try.func16, Try.ntmps16
  go_upto_region 2 with fail
  rw [← HW0.out]
  go_wp2_with fail
  go_loopw [5] (fun i W => ∃ q : Nat, q ≤ 4 ∧ i = .int .i64 q ∧ ∃ x, PInv K D l w W x) (fun i _ => 4 - (intOf i).toNat)
  case atStart => exact ⟨0, by omega, rfl, _, HI.out⟩
  case round =>
    clear HI HW0 hz0
    obtain ⟨q, hq, rfl, x, hI⟩ := hrel
    have HI := Lib.hid hI
    obtain ⟨p1, hc⟩ := hI.co
    have HC := Lib.hid hc
    have hsz := hI.gr.size
    have hs1 := hI.b1.lt
    clear hI hc
    by_cases hlt : q < 4
    · have hkI : (q : Int) < 4 := by omega
      have hk0 : 0 ≤ (q : Int) := by omega
      go_wp2_with fail
      with_reducible refine (next256 HC.out).mono ?_
      rintro en w7 ⟨a, ha, rfl, hg7, p7, hc7⟩
      have haw : IntKind.u64.wrap (a : Int) = (a : Int) := u64_wrapN a (by omega)
      have hB1 := HI.out.b1.chose hg7
      have e0 : w7.cell? ⟨w.heap.size + 1, q * 2, none⟩ = some _ := hB1.at _ _ (pcs_at x q hlt).1
      have e1 : w7.cell? ⟨w.heap.size + 1, q * 2 + 1, none⟩ = some _ := hB1.at _ _ (pcs_at x q hlt).2
      have f0 := hB1.f (q * 2)
      have f1 := hB1.f (q * 2 + 1)
      obtain ⟨W8, hW8⟩ : ∃ W, W = (w7.setCell ⟨w.heap.size + 1, q * 2, none⟩ (.int .u64 0)).setCell ⟨w.heap.size + 1, q * 2 + 1, none⟩ (.int .u64 (a : Int)) := ⟨_, rfl⟩
      have g8 : w7.grownBy W8 (some (w.heap.size + 1)) := by rw [hW8]; exact (grown_set w7 (w.heap.size + 1) (q * 2) _).trans (grown_set _ (w.heap.size + 1) (q * 2 + 1) _)
      have hB8 : Bx K (w.heap.size + 1) (pcs fun i => if i = q then a else x i) W8 := by
        rw [hW8, ← pcs_set x q a hlt]
        exact (hB1.set (q * 2) (.int .u64 0)).set (q * 2 + 1) (.int .u64 (a : Int))
      have hI8 : PInv K D l w W8 (fun i => if i = q then a else x i) := ⟨(HI.out.b0.chose hg7).kept g8 (fun e => by injection e with e; omega), hB8, fun i => by
          show (if i = q then a else x i) < _
          split
          · omega
          · exact HI.out.lt i, grown_newM (HI.out.gr.trans hg7) g8 (by omega), p7, hc7.kept g8 (fun e => by injection e with e; omega) (fun h2 e => by have := hDl h2; injection e with e; omega)⟩
      have HI8 := Lib.hid hI8
      have HW8 := Lib.hid hW8
      obtain ⟨y, hy⟩ : ∃ y : Nat → Nat, y = fun i => if i = q then a else x i := ⟨_, rfl⟩
      rw [← hy] at HI8
      obtain ⟨p8, hc8⟩ := HI8.out.co
      have HC8 := Lib.hid hc8
      have hs8 := HI8.out.gr.size
      have hl8 := HI8.out.b1.lt
      clear hW8 hI8 hB8 g8 hc8 hg7 hc7 hB1 hy
      go_upto_region 6 with fail
      rw [← HW8.out]
      clear e0 e1 f0 f1
      go_wp2_with fail
      with_reducible refine (next4 HC8.out).mono ?_
      rintro en w9 ⟨d, hd, rfl, hg9, p9, hc9⟩
      have hI9 : PInv K D l w w9 y := ⟨HI8.out.b0.chose hg9, HI8.out.b1.chose hg9, HI8.out.lt, HI8.out.gr.trans hg9, p9, hc9⟩
      have HI9 := Lib.hid hI9
      have HC9 := Lib.hid hc9
      have hs9 := hI9.gr.size
      have hl9 := hI9.b1.lt
      clear hg9 hc9 hI9
      by_cases hd1 : d = 1
      · subst hd1
        rw [show ((1 : Nat) : Int) = 1 from rfl]
        have e1 : w9.drew.cell? ⟨w.heap.size + 1, q * 2 + 1, none⟩ = some (.int .u64 (y q : Nat)) := HI9.out.b1.at _ _ (pcs_at y q hlt).2
        have HCd := Lib.hid HC9.out.drew
        have hl9d : w.heap.size + 1 < w9.drew.heap.size := hl9
        go_upto_region 7 with fail
        go_region_with (go_at_call 48; (with_reducible refine (next256 HCd.out).mono ?_); rintro en w7 ⟨b, hb, rfl, hg7, p7, hc7⟩; have hbw : IntKind.u64.wrap (b : Int) = (b : Int) := u64_wrapN b (by omega); have HB7 := Lib.hid (HI9.out.b1.drew.chose hg7); have e7 : w7.cell? ⟨w.heap.size + 1, q * 2 + 1, none⟩ = some (.int .u64 (y q : Nat)) := HB7.out.at _ _ (pcs_at y q hlt).2; have f7 := HB7.out.f (q * 2 + 1); have HG7 := Lib.hid hg7; have HC7 := Lib.hid hc7; clear hg7 hc7)
        all_goals go_wp2_with fail
        all_goals
          rw [u64_wrap_mul]
          obtain ⟨ho, hol⟩ := or_nat (y q * 16777216 % 18446744073709551616) b (Nat.mod_lt _ (by decide)) (by omega)
          rw [ho]
          have hI7 : PInv K D l w w7 y := ⟨HI9.out.b0.drew.chose HG7.out, HB7.out, HI9.out.lt, HI9.out.gr.trans ⟨HG7.out.os, HG7.out.tape, HG7.out.output, HG7.out.size, HG7.out.block⟩, p7, HC7.out⟩
          refine ⟨⟨q + 1, by omega, by simp, _, hI7.put hKl hDl q _ hlt hol⟩, ?_⟩
          simp [intOf]; omega
      · have hdI : ¬ (d : Int) = 1 := by omega
        go_wp2_with fail
        go_roundw
        case rel => (go_light; exact ⟨q + 1, by omega, by simp, _, HI9.out⟩)
        case measure => simp [intOf]; omega
    · obtain rfl : q = 4 := by omega
      have y0 : wr.cell? ⟨w.heap.size + 1, 0, none⟩ = some (.int .u64 0) := HI.out.b1.at 0 _ rfl
      have z0 : wr.cell? ⟨w.heap.size, 0, none⟩ = some (.int .u64 0) := HI.out.b0.at 0 _ rfl
      have f0 := HI.out.b0.f 0
      have y1 : wr.cell? ⟨w.heap.size + 1, 1, none⟩ = some (.int .u64 (x 0 : Nat)) := HI.out.b1.at 1 _ rfl
      have z1 : wr.cell? ⟨w.heap.size, 1, none⟩ = some (.int .u64 0) := HI.out.b0.at 1 _ rfl
      have f1 := HI.out.b0.f 1
      have y2 : wr.cell? ⟨w.heap.size + 1, 2, none⟩ = some (.int .u64 0) := HI.out.b1.at 2 _ rfl
      have z2 : wr.cell? ⟨w.heap.size, 2, none⟩ = some (.int .u64 0) := HI.out.b0.at 2 _ rfl
      have f2 := HI.out.b0.f 2
      have y3 : wr.cell? ⟨w.heap.size + 1, 3, none⟩ = some (.int .u64 (x 1 : Nat)) := HI.out.b1.at 3 _ rfl
      have z3 : wr.cell? ⟨w.heap.size, 3, none⟩ = some (.int .u64 0) := HI.out.b0.at 3 _ rfl
      have f3 := HI.out.b0.f 3
      have y4 : wr.cell? ⟨w.heap.size + 1, 4, none⟩ = some (.int .u64 0) := HI.out.b1.at 4 _ rfl
      have z4 : wr.cell? ⟨w.heap.size, 4, none⟩ = some (.int .u64 0) := HI.out.b0.at 4 _ rfl
      have f4 := HI.out.b0.f 4
      have y5 : wr.cell? ⟨w.heap.size + 1, 5, none⟩ = some (.int .u64 (x 2 : Nat)) := HI.out.b1.at 5 _ rfl
      have z5 : wr.cell? ⟨w.heap.size, 5, none⟩ = some (.int .u64 0) := HI.out.b0.at 5 _ rfl
      have f5 := HI.out.b0.f 5
      have y6 : wr.cell? ⟨w.heap.size + 1, 6, none⟩ = some (.int .u64 0) := HI.out.b1.at 6 _ rfl
      have z6 : wr.cell? ⟨w.heap.size, 6, none⟩ = some (.int .u64 0) := HI.out.b0.at 6 _ rfl
      have f6 := HI.out.b0.f 6
      have y7 : wr.cell? ⟨w.heap.size + 1, 7, none⟩ = some (.int .u64 (x 3 : Nat)) := HI.out.b1.at 7 _ rfl
      have z7 : wr.cell? ⟨w.heap.size, 7, none⟩ = some (.int .u64 0) := HI.out.b0.at 7 _ rfl
      have f7 := HI.out.b0.f 7
      have HBR := Lib.hid ((((((((HI.out.b0.set 0 (.int .u64 0)).set 1 (.int .u64 (x 0 : Nat))).set 2 (.int .u64 0)).set 3 (.int .u64 (x 1 : Nat))).set 4 (.int .u64 0)).set 5 (.int .u64 (x 2 : Nat))).set 6 (.int .u64 0)).set 7 (.int .u64 (x 3 : Nat)))
      have hkI : ¬ ((4 : Nat) : Int) < 4 := by omega
      have hl0 : w.heap.size < wr.heap.size := by omega
      go_wp2_with fail
      have q0 := HBR.out.at 0 _ rfl
      have q1 := HBR.out.at 1 _ rfl
      have q2 := HBR.out.at 2 _ rfl
      have q3 := HBR.out.at 3 _ rfl
      have q4 := HBR.out.at 4 _ rfl
      have q5 := HBR.out.at 5 _ rfl
      have q6 := HBR.out.at 6 _ rfl
      have q7 := HBR.out.at 7 _ rfl
      refine bodyPost_ret (v := .agg #[.int .u64 0, .int .u64 (x 0 : Nat), .int .u64 0, .int .u64 (x 1 : Nat), .int .u64 0, .int .u64 (x 2 : Nat), .int .u64 0, .int .u64 (x 3 : Nat)]) (by simp [results, Try.results16, go_sem, q0, q1, q2, q3, q4, q5, q6, q7]) rfl ?_
      have gs := grown_set8 (k := w.heap.size) wr (.int .u64 0) (.int .u64 (x 0 : Nat)) (.int .u64 0) (.int .u64 (x 1 : Nat)) (.int .u64 0) (.int .u64 (x 2 : Nat)) (.int .u64 0) (.int .u64 (x 3 : Nat))
      exact ⟨x, rfl, HI.out.lt, grown_newM HI.out.gr gs (Nat.le_refl _), p1, HC.out.kept gs (fun e => by injection e with e; omega) (fun h2 e => by have := hDl h2; injection e with e; omega)⟩
end
end Go.Proofs.Ytjdecoiciecfpaa
