/- The reference's order of entries. -/
import Derived.Test.YthldelnibgdnaaaGOrdL
namespace Go.Proofs.Ythldelnibgdnaaa
open Go.RowKit
/-- the order of entries -/
def entL (a b : EntryD) : List Int := [sgI a.table b.table, sgI b.prio a.prio, lexI matI a.ms b.ms, sgI a.action b.action]
def entI (a b : EntryD) : Int := if fstNZ (entL a b) = 0 then lexI cmp a.args b.args else fstNZ (entL a b)
theorem fst_drop : ∀ (l : List Int) (k : Nat), (∀ j v, j < k → l[j]? = some v → v = 0) → fstNZ (l.drop k) = fstNZ l
  | [], k, _ => by simp
  | x :: r, 0, _ => rfl
  | x :: r, k + 1, h => by
    rw [List.drop_succ_cons, fst_drop r k fun j v hj hv => h (j + 1) v (by omega) (by simpa using hv)]
    show _ = if x = 0 then fstNZ r else x
    rw [if_pos (h 0 x (by omega) rfl)]
set_option maxRecDepth 100000 in
set_option maxHeartbeats 2500000 in
theorem r_Compare {w : World} {B : Nat} (a b : EntryD) {A1 A2 U1 U2 : Option Addr} {n1 c1 n2 c2 m1 d1 m2 d2 : Nat} (h1 : RowV 8 MatchV B w (.slice A1 n1 c1) a.ms) (h2 : RowV 8 MatchV B w (.slice A2 n2 c2) b.ms) (k1 : RowV 2 ValV B w (.slice U1 m1 d1) a.args) (k2 : RowV 2 ValV B w (.slice U2 m2 d2) b.args) (hB : B ≤ w.heap.size) : Calls Try.prog 11 #[.agg #[.int .i64 a.table, .slice A1 n1 c1, .int .i64 a.prio, .int .i64 a.action, .slice U1 m1 d1], .agg #[.int .i64 b.table, .slice A2 n2 c2, .int .i64 b.prio, .int .i64 b.action, .slice U2 m2 d2]] w (RetX (.int .i64 (entI a b)) w) := by
  obtain ⟨W0, hW0⟩ : ∃ W, W = ((w.alloc (.cells #[.int .i64 a.table, .slice A1 n1 c1, .int .i64 a.prio, .int .i64 a.action, .slice U1 m1 d1] 26)).alloc (.cells #[.int .i64 b.table, .slice A2 n2 c2, .int .i64 b.prio, .int .i64 b.action, .slice U2 m2 d2] 26)) := ⟨_, rfl⟩
  have hB0 : Below w.heap.size w W0 := by rw [hW0]; exact (((Below.refl w.heap.size w).alloc (by simp <;> omega) _).alloc (by simp <;> omega) _)
  have hz0 : W0.heap.size = w.heap.size + 2 := by rw [hW0]; simp
  have b0_0 : W0.heap[w.heap.size]? = some (.cells #[.int .i64 a.table, .slice A1 n1 c1, .int .i64 a.prio, .int .i64 a.action, .slice U1 m1 d1] 26 (0, 0)) := by
    rw [hW0]
    exact (((Below.refl (w.alloc (.cells #[.int .i64 a.table, .slice A1 n1 c1, .int .i64 a.prio, .int .i64 a.action, .slice U1 m1 d1] 26)).heap.size (w.alloc (.cells #[.int .i64 a.table, .slice A1 n1 c1, .int .i64 a.prio, .int .i64 a.action, .slice U1 m1 d1] 26))).alloc (by simp <;> omega) _).block w.heap.size (by simp)).trans (heap_alloc_new _ _)
  have b0_1 : W0.heap[w.heap.size + 1]? = some (.cells #[.int .i64 b.table, .slice A2 n2 c2, .int .i64 b.prio, .int .i64 b.action, .slice U2 m2 d2] 26 (0, 0)) := by
    rw [hW0]
    rw [show w.heap.size + 1 = (w.alloc (.cells #[.int .i64 a.table, .slice A1 n1 c1, .int .i64 a.prio, .int .i64 a.action, .slice U1 m1 d1] 26)).heap.size by simp]
    exact heap_alloc_new _ _
  obtain ⟨M, hM⟩ : ∃ M, M = lexI matI a.ms b.ms := ⟨_, rfl⟩
  obtain ⟨V, hV⟩ : ∃ V, V = lexI cmp a.args b.args := ⟨_, rfl⟩
  have hto : ∀ W, Below W0.heap.size W0 W → Below w.heap.size w W := fun W hb => hB0.trans (hb.mono hB0.size)
  have K1 : Hid (∀ W, Below W0.heap.size W0 W → Calls Try.prog 34 #[.slice A1 n1 c1, .slice A2 n2 c2] W (RetX (.int .i64 M) W)) := Lib.hid fun W hb => by
    rw [hM]
    exact r_matches (h1.below kept_match ((hto W hb).mono hB)) (h2.below kept_match ((hto W hb).mono hB)) (Nat.le_trans hB (hto W hb).size)
  have K2 : Hid (∀ W, Below W0.heap.size W0 W → Calls Try.prog 35 #[.slice U1 m1 d1, .slice U2 m2 d2] W (RetX (.int .i64 V) W)) := Lib.hid fun W hb => by
    rw [hV]
    exact r_values (k1.below kept_val ((hto W hb).mono hB)) (k2.below kept_val ((hto W hb).mono hB)) (Nat.le_trans hB (hto W hb).size)
  obtain ⟨s0, hs0⟩ : ∃ s, s = sgI a.table b.table := ⟨_, rfl⟩
  obtain ⟨s1, hs1⟩ : ∃ s, s = sgI b.prio a.prio := ⟨_, rfl⟩
  obtain ⟨s3, hs3⟩ : ∃ s, s = sgI a.action b.action := ⟨_, rfl⟩
  have HR : Hid (entI a b = if fstNZ [s0, s1, M, s3] = 0 then V else fstNZ [s0, s1, M, s3]) := Lib.hid (by rw [hs0, hs1, hs3, hM, hV]; rfl)
  have N0 : Hid (∀ W, Calls Try.prog 33 #[.int .i64 a.table, .int .i64 b.table] W fun e w' => e = .returned (.int .i64 s0) ∧ w' = W) := Lib.hid fun W => by rw [hs0]; exact r_number _ _ W
  have N1 : Hid (∀ W, Calls Try.prog 33 #[.int .i64 b.prio, .int .i64 a.prio] W fun e w' => e = .returned (.int .i64 s1) ∧ w' = W) := Lib.hid fun W => by rw [hs1]; exact r_number _ _ W
  have N3 : Hid (∀ W, Calls Try.prog 33 #[.int .i64 a.action, .int .i64 b.action] W fun e w' => e = .returned (.int .i64 s3) ∧ w' = W) := Lib.hid fun W => by rw [hs3]; exact r_number _ _ W
  have BA := Lib.hid b0_0
  have BB := Lib.hid b0_1
  have HKS : Hid (∀ w', Below W0.heap.size W0 w' → Below W0.heap.size W0 w' ∧ w'.cell? ⟨w.heap.size, 0, none⟩ = some (.int .i64 a.table) ∧ w'.cell? ⟨w.heap.size, 1, none⟩ = some (.slice A1 n1 c1) ∧ w'.cell? ⟨w.heap.size, 2, none⟩ = some (.int .i64 a.prio) ∧ w'.cell? ⟨w.heap.size, 3, none⟩ = some (.int .i64 a.action) ∧ w'.cell? ⟨w.heap.size, 4, none⟩ = some (.slice U1 m1 d1) ∧ w'.cell? ⟨w.heap.size + 1, 0, none⟩ = some (.int .i64 b.table) ∧ w'.cell? ⟨w.heap.size + 1, 1, none⟩ = some (.slice A2 n2 c2) ∧ w'.cell? ⟨w.heap.size + 1, 2, none⟩ = some (.int .i64 b.prio) ∧ w'.cell? ⟨w.heap.size + 1, 3, none⟩ = some (.int .i64 b.action) ∧ w'.cell? ⟨w.heap.size + 1, 4, none⟩ = some (.slice U2 m2 d2)) := Lib.hid fun w' hb => by
    have q0 := (hb.block w.heap.size (by omega)).trans b0_0
    have q1 := (hb.block (w.heap.size + 1) (by omega)).trans b0_1
    exact ⟨hb, blk_cell q0 0 _ rfl, blk_cell q0 1 _ rfl, blk_cell q0 2 _ rfl, blk_cell q0 3 _ rfl, blk_cell q0 4 _ rfl, blk_cell q1 0 _ rfl, blk_cell q1 1 _ rfl, blk_cell q1 2 _ rfl, blk_cell q1 3 _ rfl, blk_cell q1 4 _ rfl⟩
  have HB0 := Lib.hid hB0
  have HW0 := Lib.hid hW0
  clear hB0 hW0 b0_0 b0_1 hto h1 h2 k1 k2 hM hV hs0 hs1 hs3
  go_enter Try.func11, Try.ntmps11
  go_upto_region 1 with fail
  rw [← HW0.out]
  go_region_held3 (fun w' => Below W0.heap.size W0 w' ∧ w'.cell? ⟨w.heap.size, 0, none⟩ = some (.int .i64 a.table) ∧ w'.cell? ⟨w.heap.size, 1, none⟩ = some (.slice A1 n1 c1) ∧ w'.cell? ⟨w.heap.size, 2, none⟩ = some (.int .i64 a.prio) ∧ w'.cell? ⟨w.heap.size, 3, none⟩ = some (.int .i64 a.action) ∧ w'.cell? ⟨w.heap.size, 4, none⟩ = some (.slice U1 m1 d1) ∧ w'.cell? ⟨w.heap.size + 1, 0, none⟩ = some (.int .i64 b.table) ∧ w'.cell? ⟨w.heap.size + 1, 1, none⟩ = some (.slice A2 n2 c2) ∧ w'.cell? ⟨w.heap.size + 1, 2, none⟩ = some (.int .i64 b.prio) ∧ w'.cell? ⟨w.heap.size + 1, 3, none⟩ = some (.int .i64 b.action) ∧ w'.cell? ⟨w.heap.size + 1, 4, none⟩ = some (.slice U2 m2 d2))
    (first
      | exact HKS.out _ (Below.drew (Below.refl _ _))
      | exact HKS.out _ (below_call (And.left (by assumption)) (by assumption))
      | exact HKS.out _ (below_alloc (And.left (by assumption)) _)
      | assumption)
    (first
      | (go_at_call 33; (with_reducible refine (N0.out _).mono ?_); rintro en u0 ⟨rfl, rfl⟩)
      | (go_at_call 33; (with_reducible refine (N1.out _).mono ?_); rintro en u1 ⟨rfl, rfl⟩)
      | (go_at_call 34; (with_reducible refine (K1.out _ (And.left (by assumption))).mono ?_); rintro en u2 ⟨rfl, hu2⟩; have B2 := Lib.hid ((Below.refl W0.heap.size W0).drew.trans hu2))
      | (go_at_call 33; (with_reducible refine (N3.out _).mono ?_); rintro en u3 ⟨rfl, rfl⟩))
  obtain ⟨W3, hW3⟩ : ∃ x, x = u3.alloc (.cells #[.int .i64 s0, .int .i64 s1, .int .i64 M, .int .i64 s3] 3) := ⟨_, rfl⟩
  rw [← hW3]
  have hb3 : Below u3.heap.size u3 W3 := by rw [hW3]; exact (Below.refl _ _).alloc (Nat.le_refl _) _
  have hz3 : W3.heap.size = u3.heap.size + 1 := by rw [hW3]; simp
  have BL : Hid (W3.heap[u3.heap.size]? = some (.cells #[.int .i64 s0, .int .i64 s1, .int .i64 M, .int .i64 s3] 3 (0, 0))) := Lib.hid (by rw [hW3]; exact heap_alloc_new _ _)
  have H3 := Lib.hid (B2.out.trans (hb3.mono B2.out.size))
  clear hW3 hb3 hu2
  go_wp2_with fail
  go_loopw [29] (fun i W => ∃ k : Nat, k ≤ 4 ∧ i = .int .i64 k ∧ Below W3.heap.size W3 W ∧ Hid (∀ j v, j < k → [s0, s1, M, s3][j]? = some v → v = 0)) (fun i _ => 4 - (intOf i).toNat)
  case atStart => exact ⟨0, by omega, rfl, Below.refl _ _, Lib.hid fun j v hj => by omega⟩
  case round =>
    obtain ⟨k, hk, rfl, hb, Z0⟩ := hrel
    have HB := Lib.hid hb
    have hzw := hb.size
    have H0r := Lib.hid (H3.out.trans (hb.mono H3.out.size))
    clear hb
    by_cases hlt : k < 4
    · have j1 : (k : Int) < 4 := by omega
      have j0 : 0 ≤ (k : Int) := by omega
      obtain ⟨z, hz, hzc⟩ : ∃ z, [s0, s1, M, s3][k]? = some z ∧ wr.cell? ⟨u3.heap.size, k, none⟩ = some (.int .i64 z) := by
        have q := (HB.out.block u3.heap.size (by omega)).trans BL.out
        match k, hlt with
        | 0, _ => exact ⟨_, rfl, blk_cell q 0 _ rfl⟩
        | 1, _ => exact ⟨_, rfl, blk_cell q 1 _ rfl⟩
        | 2, _ => exact ⟨_, rfl, blk_cell q 2 _ rfl⟩
        | 3, _ => exact ⟨_, rfl, blk_cell q 3 _ rfl⟩
      have HZ := Lib.hid hz
      clear hz
      by_cases hz0 : z = 0
      · subst hz0
        go_wp2_with fail
        go_roundw
        case rel => exact ⟨k + 1, by omega, by simp, HB.out, Lib.hid fun j v hj hv => by
          rcases Nat.lt_or_ge j k with h5 | h5
          · exact Z0.out j v h5 hv
          · obtain rfl : k = j := by omega
            rw [HZ.out] at hv
            exact (Option.some.inj hv).symm⟩
        case measure => simp [intOf]; omega
      · have hzf : (z == 0) = false := by simpa using hz0
        have HN := Lib.hid hz0
        have HF : Hid (fstNZ [s0, s1, M, s3] = z) := Lib.hid (by
          have e := fst_drop [s0, s1, M, s3] k Z0.out
          have hkl : k < [s0, s1, M, s3].length := hlt
          have e2 : [s0, s1, M, s3].drop k = z :: [s0, s1, M, s3].drop (k + 1) := by rw [List.drop_eq_getElem_cons hkl]; congr 1; have := HZ.out; rw [List.getElem?_eq_getElem hkl] at this; exact Option.some.inj this
          rw [← e, e2]
          show (if z = 0 then _ else z) = z
          rw [if_neg hz0])
        go_wp2_with fail
        go_ret
        exact ⟨by rw [HR.out, HF.out, if_neg HN.out]; rfl, HB0.out.trans (H0r.out.mono HB0.out.size)⟩
    · obtain rfl : k = 4 := by omega
      have HF : Hid (fstNZ [s0, s1, M, s3] = 0) := Lib.hid (by
        have e := fst_drop [s0, s1, M, s3] 4 Z0.out
        rw [← e]
        rfl)
      have q := HKS.out wr H0r.out
      obtain ⟨-, -, -, -, -, x4, -, -, -, -, y4⟩ := q
      go_wp2_with ((with_reducible refine (K2.out _ H0r.out).mono ?_); rintro en u5 ⟨rfl, hu5⟩)
      go_ret
      exact ⟨by rw [HR.out, HF.out, if_pos rfl]; rfl, HB0.out.trans ((H0r.out.trans (hu5.mono H0r.out.size)).mono HB0.out.size)⟩
end Go.Proofs.Ythldelnibgdnaaa
