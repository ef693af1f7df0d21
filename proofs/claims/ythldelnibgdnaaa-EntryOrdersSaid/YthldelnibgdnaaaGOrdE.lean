/- The program's order of entries. -/
import Derived.Test.YthldelnibgdnaaaGOrdM
import Derived.Test.YthldelnibgdnaaaGOrdC
namespace Go.Proofs.Ythldelnibgdnaaa
open Go.RowKit
set_option maxRecDepth 100000 in
set_option maxHeartbeats 4000000 in
theorem p_matches {w : World} {B : Nat} {A1 A2 : Option Addr} {n1 c1 n2 c2 : Nat} {xs ys : List MatchD} (h1 : RowV 8 MatchV B w (.slice A1 n1 c1) xs) (h2 : RowV 8 MatchV B w (.slice A2 n2 c2) ys) (hB : B ≤ w.heap.size) : Calls Try.prog 29 #[.slice A1 n1 c1, .slice A2 n2 c2, .func (.func 30) #[] #[]] w (RetX (.int .i64 (lexI matI xs ys)) w) := by
  obtain ⟨hn1, hm1, hx1⟩ := h1.len
  obtain ⟨hn2, hm2, hx2⟩ := h2.len
  have H1 := Lib.hid h1
  have H2 := Lib.hid h2
  clear h1 h2
  go_enter Try.func29, Try.ntmps29
  go_wp2_with fail
  go_loopw [13] (fun i W => ∃ k : Nat, k ≤ n1 ∧ k ≤ n2 ∧ i = .int .i64 k ∧ Below w.heap.size w W ∧ Hid (∀ j a b, j < k → xs[j]? = some a → ys[j]? = some b → matI a b = 0)) (fun i _ => n1 - (intOf i).toNat)
  case atStart => exact ⟨0, by omega, by omega, rfl, Below.refl _ _, Lib.hid fun j a b hj => by omega⟩
  case round =>
    obtain ⟨k, hk1, hk2, rfl, hb, H0⟩ := hrel
    have HB := Lib.hid hb
    clear hb
    have HE : Hid ((k = n1 ∨ k = n2) → lexI matI xs ys = sgI n1 n2) := Lib.hid (fun hkk => by
      rw [hn1.out, hn2.out]
      refine lex_end matI xs ys fun j a b ha hb => H0.out j a b ?_ ha hb
      have a1 := (List.getElem?_eq_some_iff.1 ha).1
      have a2 := (List.getElem?_eq_some_iff.1 hb).1
      have := hn1.out
      have := hn2.out
      omega)
    by_cases hlt : k < n1
    · have j1 : (k : Int) < (n1 : Int) := by omega
      have j3 : (k : Int) < (c1 : Int) := by omega
      have j0 : 0 ≤ (k : Int) := by omega
      obtain ⟨g1, o1, e1, x, hx, hg1, cs, hc1, hV1⟩ := row_at (H1.out.below kept_match (HB.out.mono hB)) (q := k) (by rw [← hn1.out]; omega)
      obtain ⟨rfl, hok1⟩ := hV1
      subst e1
      have x0 : wr.cell? ⟨g1, o1 + k * 8, none⟩ = some (.bool x.pres) := hc1.at0 _ rfl
      have x1 : wr.cell? ⟨g1, o1 + k * 8 + 1, none⟩ = some (.int .u64 (hi x.val)) := hc1.at 1 _ rfl
      have x2 : wr.cell? ⟨g1, o1 + k * 8 + 2, none⟩ = some (.int .u64 (lo x.val)) := hc1.at 2 _ rfl
      have x3 : wr.cell? ⟨g1, o1 + k * 8 + 3, none⟩ = some (.int .u64 (hi x.mask)) := hc1.at 3 _ rfl
      have x4 : wr.cell? ⟨g1, o1 + k * 8 + 4, none⟩ = some (.int .u64 (lo x.mask)) := hc1.at 4 _ rfl
      have x5 : wr.cell? ⟨g1, o1 + k * 8 + 5, none⟩ = some (.int .i64 x.pre) := hc1.at 5 _ rfl
      have x6 : wr.cell? ⟨g1, o1 + k * 8 + 6, none⟩ = some (.int .u64 (hi x.high)) := hc1.at 6 _ rfl
      have x7 : wr.cell? ⟨g1, o1 + k * 8 + 7, none⟩ = some (.int .u64 (lo x.high)) := hc1.at 7 _ rfl
      by_cases hl2 : k < n2
      · have j2 : (k : Int) < (n2 : Int) := by omega
        have j2b : ¬ (n2 : Int) ≤ (k : Int) := by omega
        have j4 : (k : Int) < (c2 : Int) := by omega
        obtain ⟨g2, o2, e2, y, hy, hg2, ds, hc2, hV2⟩ := row_at (H2.out.below kept_match (HB.out.mono hB)) (q := k) (by rw [← hn2.out]; omega)
        obtain ⟨rfl, hok2⟩ := hV2
        subst e2
        have C1 : Hid (Below wr.heap.size wr (wr.alloc (.cells #[.bool x.pres, .int .u64 (hi x.val), .int .u64 (lo x.val), .int .u64 (hi x.mask), .int .u64 (lo x.mask), .int .i64 x.pre, .int .u64 (hi x.high), .int .u64 (lo x.high)] 75))) := Lib.hid ((Below.refl _ wr).alloc (Nat.le_refl _) _)
        have y0 : (wr.alloc (.cells #[.bool x.pres, .int .u64 (hi x.val), .int .u64 (lo x.val), .int .u64 (hi x.mask), .int .u64 (lo x.mask), .int .i64 x.pre, .int .u64 (hi x.high), .int .u64 (lo x.high)] 75)).cell? ⟨g2, o2 + k * 8, none⟩ = some (.bool y.pres) := (C1.out.cell (p := ⟨g2, _, none⟩) (World.block_lt_of_cell? _ _ (hc2.at0 _ rfl))).trans (hc2.at0 _ rfl)
        have y1 : (wr.alloc (.cells #[.bool x.pres, .int .u64 (hi x.val), .int .u64 (lo x.val), .int .u64 (hi x.mask), .int .u64 (lo x.mask), .int .i64 x.pre, .int .u64 (hi x.high), .int .u64 (lo x.high)] 75)).cell? ⟨g2, o2 + k * 8 + 1, none⟩ = some (.int .u64 (hi y.val)) := (C1.out.cell (p := ⟨g2, _, none⟩) (World.block_lt_of_cell? _ _ (hc2.at 1 _ rfl))).trans (hc2.at 1 _ rfl)
        have y2 : (wr.alloc (.cells #[.bool x.pres, .int .u64 (hi x.val), .int .u64 (lo x.val), .int .u64 (hi x.mask), .int .u64 (lo x.mask), .int .i64 x.pre, .int .u64 (hi x.high), .int .u64 (lo x.high)] 75)).cell? ⟨g2, o2 + k * 8 + 2, none⟩ = some (.int .u64 (lo y.val)) := (C1.out.cell (p := ⟨g2, _, none⟩) (World.block_lt_of_cell? _ _ (hc2.at 2 _ rfl))).trans (hc2.at 2 _ rfl)
        have y3 : (wr.alloc (.cells #[.bool x.pres, .int .u64 (hi x.val), .int .u64 (lo x.val), .int .u64 (hi x.mask), .int .u64 (lo x.mask), .int .i64 x.pre, .int .u64 (hi x.high), .int .u64 (lo x.high)] 75)).cell? ⟨g2, o2 + k * 8 + 3, none⟩ = some (.int .u64 (hi y.mask)) := (C1.out.cell (p := ⟨g2, _, none⟩) (World.block_lt_of_cell? _ _ (hc2.at 3 _ rfl))).trans (hc2.at 3 _ rfl)
        have y4 : (wr.alloc (.cells #[.bool x.pres, .int .u64 (hi x.val), .int .u64 (lo x.val), .int .u64 (hi x.mask), .int .u64 (lo x.mask), .int .i64 x.pre, .int .u64 (hi x.high), .int .u64 (lo x.high)] 75)).cell? ⟨g2, o2 + k * 8 + 4, none⟩ = some (.int .u64 (lo y.mask)) := (C1.out.cell (p := ⟨g2, _, none⟩) (World.block_lt_of_cell? _ _ (hc2.at 4 _ rfl))).trans (hc2.at 4 _ rfl)
        have y5 : (wr.alloc (.cells #[.bool x.pres, .int .u64 (hi x.val), .int .u64 (lo x.val), .int .u64 (hi x.mask), .int .u64 (lo x.mask), .int .i64 x.pre, .int .u64 (hi x.high), .int .u64 (lo x.high)] 75)).cell? ⟨g2, o2 + k * 8 + 5, none⟩ = some (.int .i64 y.pre) := (C1.out.cell (p := ⟨g2, _, none⟩) (World.block_lt_of_cell? _ _ (hc2.at 5 _ rfl))).trans (hc2.at 5 _ rfl)
        have y6 : (wr.alloc (.cells #[.bool x.pres, .int .u64 (hi x.val), .int .u64 (lo x.val), .int .u64 (hi x.mask), .int .u64 (lo x.mask), .int .i64 x.pre, .int .u64 (hi x.high), .int .u64 (lo x.high)] 75)).cell? ⟨g2, o2 + k * 8 + 6, none⟩ = some (.int .u64 (hi y.high)) := (C1.out.cell (p := ⟨g2, _, none⟩) (World.block_lt_of_cell? _ _ (hc2.at 6 _ rfl))).trans (hc2.at 6 _ rfl)
        have y7 : (wr.alloc (.cells #[.bool x.pres, .int .u64 (hi x.val), .int .u64 (lo x.val), .int .u64 (hi x.mask), .int .u64 (lo x.mask), .int .i64 x.pre, .int .u64 (hi x.high), .int .u64 (lo x.high)] 75)).cell? ⟨g2, o2 + k * 8 + 7, none⟩ = some (.int .u64 (lo y.high)) := (C1.out.cell (p := ⟨g2, _, none⟩) (World.block_lt_of_cell? _ _ (hc2.at 7 _ rfl))).trans (hc2.at 7 _ rfl)
        have HX := Lib.hid hx
        have HY := Lib.hid hy
        obtain ⟨z, hz⟩ : ∃ z, z = matI x y := ⟨_, rfl⟩
        have KC : Hid (∀ W, Calls Try.prog 30 #[.agg #[.bool x.pres, .int .u64 (hi x.val), .int .u64 (lo x.val), .int .u64 (hi x.mask), .int .u64 (lo x.mask), .int .i64 x.pre, .int .u64 (hi x.high), .int .u64 (lo x.high)], .agg #[.bool y.pres, .int .u64 (hi y.val), .int .u64 (lo y.val), .int .u64 (hi y.mask), .int .u64 (lo y.mask), .int .i64 y.pre, .int .u64 (hi y.high), .int .u64 (lo y.high)]] W (RetX (.int .i64 z) W)) := Lib.hid fun W => by rw [hz]; exact g_compareMatches x y hok1 hok2 W
        have HZ := Lib.hid hz
        have CB : Hid (Below w.heap.size w ((wr.alloc (.cells #[.bool x.pres, .int .u64 (hi x.val), .int .u64 (lo x.val), .int .u64 (hi x.mask), .int .u64 (lo x.mask), .int .i64 x.pre, .int .u64 (hi x.high), .int .u64 (lo x.high)] 75)).alloc (.cells #[.bool y.pres, .int .u64 (hi y.val), .int .u64 (lo y.val), .int .u64 (hi y.mask), .int .u64 (lo y.mask), .int .i64 y.pre, .int .u64 (hi y.high), .int .u64 (lo y.high)] 75))) := Lib.hid ((HB.out.alloc HB.out.size _).alloc (by simp; have := HB.out.size; omega) _)
        clear hc1 hc2 hok1 hok2 hx hy hz C1
        by_cases hz0 : z = 0
        · subst hz0
          go_wp2_with (go_at_call 30; refine (KC.out _).mono ?_; rintro e w3 ⟨rfl, hb3⟩; have HB3 := Lib.hid (CB.out.trans (hb3.mono CB.out.size)); clear hb3)
          go_roundw
          case rel => exact ⟨k + 1, by omega, by omega, by simp, HB3.out, Lib.hid fun j a b hj ha hb => by
            rcases Nat.lt_or_ge j k with h5 | h5
            · exact H0.out j a b h5 ha hb
            · obtain rfl : k = j := by omega
              rw [HX.out] at ha
              rw [HY.out] at hb
              rw [← Option.some.inj ha, ← Option.some.inj hb, ← HZ.out]⟩
          case measure => simp [intOf]; omega
        · have hzf : (z == 0) = false := by simpa using hz0
          have HZ0 := Lib.hid hz0
          go_wp2_with (go_at_call 30; refine (KC.out _).mono ?_; rintro e w3 ⟨rfl, hb3⟩; have HB3 := Lib.hid (CB.out.trans (hb3.mono CB.out.size)); clear hb3)
          go_ret
          exact ⟨by rw [lex_at matI xs ys k x y H0.out HX.out HY.out (by rw [← HZ.out]; exact HZ0.out), ← HZ.out]; rfl, HB3.out⟩
      · have j2 : (n2 : Int) ≤ (k : Int) := by omega
        have HS : Hid (lexI matI xs ys = 1) := Lib.hid (by rw [HE.out (.inr (by omega))]; unfold sgI; rw [if_neg (by omega), if_pos (by omega)])
        have CB : Hid (Below w.heap.size w (wr.alloc (.cells #[.bool x.pres, .int .u64 (hi x.val), .int .u64 (lo x.val), .int .u64 (hi x.mask), .int .u64 (lo x.mask), .int .i64 x.pre, .int .u64 (hi x.high), .int .u64 (lo x.high)] 75))) := Lib.hid (HB.out.alloc HB.out.size _)
        clear hc1 hok1 hx
        go_wp2_with fail
        go_ret
        exact ⟨by rw [HS.out]; rfl, CB.out⟩
    · obtain rfl : k = n1 := by omega
      have j1 : ¬ (k : Int) < (k : Int) := by omega
      by_cases hl2 : k < n2
      · have j2 : (k : Int) < (n2 : Int) := by omega
        have HS : Hid (lexI matI xs ys = -1) := Lib.hid (by rw [HE.out (.inl rfl)]; unfold sgI; rw [if_pos (by omega)])
        go_wp2_with fail
        go_ret
        exact ⟨by rw [HS.out]; rfl, HB.out⟩
      · have j2 : ¬ (k : Int) < (n2 : Int) := by omega
        have HS : Hid (lexI matI xs ys = 0) := Lib.hid (by rw [HE.out (.inl rfl)]; unfold sgI; rw [if_neg (by omega), if_neg (by omega)])
        go_wp2_with fail
        go_ret
        exact ⟨by rw [HS.out]; rfl, HB.out⟩
set_option maxRecDepth 100000 in
set_option maxHeartbeats 4000000 in
theorem p_values {w : World} {B : Nat} {A1 A2 : Option Addr} {n1 c1 n2 c2 : Nat} {xs ys : List Nat} (h1 : RowV 2 ValV B w (.slice A1 n1 c1) xs) (h2 : RowV 2 ValV B w (.slice A2 n2 c2) ys) (hB : B ≤ w.heap.size) : Calls Try.prog 31 #[.slice A1 n1 c1, .slice A2 n2 c2, .func (.func 32) #[] #[]] w (RetX (.int .i64 (lexI cmp xs ys)) w) := by
  obtain ⟨hn1, hm1, hx1⟩ := h1.len
  obtain ⟨hn2, hm2, hx2⟩ := h2.len
  have H1 := Lib.hid h1
  have H2 := Lib.hid h2
  clear h1 h2
  go_enter Try.func31, Try.ntmps31
  go_wp2_with fail
  go_loopw [13] (fun i W => ∃ k : Nat, k ≤ n1 ∧ k ≤ n2 ∧ i = .int .i64 k ∧ Below w.heap.size w W ∧ Hid (∀ j a b, j < k → xs[j]? = some a → ys[j]? = some b → cmp a b = 0)) (fun i _ => n1 - (intOf i).toNat)
  case atStart => exact ⟨0, by omega, by omega, rfl, Below.refl _ _, Lib.hid fun j a b hj => by omega⟩
  case round =>
    obtain ⟨k, hk1, hk2, rfl, hb, H0⟩ := hrel
    have HB := Lib.hid hb
    clear hb
    have HE : Hid ((k = n1 ∨ k = n2) → lexI cmp xs ys = sgI n1 n2) := Lib.hid (fun hkk => by
      rw [hn1.out, hn2.out]
      refine lex_end cmp xs ys fun j a b ha hb => H0.out j a b ?_ ha hb
      have a1 := (List.getElem?_eq_some_iff.1 ha).1
      have a2 := (List.getElem?_eq_some_iff.1 hb).1
      have := hn1.out
      have := hn2.out
      omega)
    by_cases hlt : k < n1
    · have j1 : (k : Int) < (n1 : Int) := by omega
      have j3 : (k : Int) < (c1 : Int) := by omega
      have j0 : 0 ≤ (k : Int) := by omega
      obtain ⟨g1, o1, e1, x, hx, hg1, cs, hc1, hV1⟩ := row_at (H1.out.below kept_val (HB.out.mono hB)) (q := k) (by rw [← hn1.out]; omega)
      obtain ⟨rfl, hok1⟩ := hV1
      subst e1
      have x0 : wr.cell? ⟨g1, o1 + k * 2, none⟩ = some (.int .u64 (hi x)) := hc1.at0 _ rfl
      have x1 : wr.cell? ⟨g1, o1 + k * 2 + 1, none⟩ = some (.int .u64 (lo x)) := hc1.at 1 _ rfl
      by_cases hl2 : k < n2
      · have j2 : (k : Int) < (n2 : Int) := by omega
        have j2b : ¬ (n2 : Int) ≤ (k : Int) := by omega
        have j4 : (k : Int) < (c2 : Int) := by omega
        obtain ⟨g2, o2, e2, y, hy, hg2, ds, hc2, hV2⟩ := row_at (H2.out.below kept_val (HB.out.mono hB)) (q := k) (by rw [← hn2.out]; omega)
        obtain ⟨rfl, hok2⟩ := hV2
        subst e2
        have C1 : Hid (Below wr.heap.size wr (wr.alloc (.cells #[.int .u64 (hi x), .int .u64 (lo x)] 29))) := Lib.hid ((Below.refl _ wr).alloc (Nat.le_refl _) _)
        have y0 : (wr.alloc (.cells #[.int .u64 (hi x), .int .u64 (lo x)] 29)).cell? ⟨g2, o2 + k * 2, none⟩ = some (.int .u64 (hi y)) := (C1.out.cell (p := ⟨g2, _, none⟩) (World.block_lt_of_cell? _ _ (hc2.at0 _ rfl))).trans (hc2.at0 _ rfl)
        have y1 : (wr.alloc (.cells #[.int .u64 (hi x), .int .u64 (lo x)] 29)).cell? ⟨g2, o2 + k * 2 + 1, none⟩ = some (.int .u64 (lo y)) := (C1.out.cell (p := ⟨g2, _, none⟩) (World.block_lt_of_cell? _ _ (hc2.at 1 _ rfl))).trans (hc2.at 1 _ rfl)
        have HX := Lib.hid hx
        have HY := Lib.hid hy
        obtain ⟨z, hz⟩ : ∃ z, z = cmp x y := ⟨_, rfl⟩
        have KC : Hid (∀ W, Calls Try.prog 32 #[.agg #[.int .u64 (hi x), .int .u64 (lo x)], .agg #[.int .u64 (hi y), .int .u64 (lo y)]] W (RetX (.int .i64 z) W)) := Lib.hid fun W => by rw [hz]; exact compare_any x y hok1 hok2 W
        have HZ := Lib.hid hz
        have CB : Hid (Below w.heap.size w ((wr.alloc (.cells #[.int .u64 (hi x), .int .u64 (lo x)] 29)).alloc (.cells #[.int .u64 (hi y), .int .u64 (lo y)] 29))) := Lib.hid ((HB.out.alloc HB.out.size _).alloc (by simp; have := HB.out.size; omega) _)
        clear hc1 hc2 hok1 hok2 hx hy hz C1
        by_cases hz0 : z = 0
        · subst hz0
          go_wp2_with (go_at_call 32; refine (KC.out _).mono ?_; rintro e w3 ⟨rfl, hb3⟩; have HB3 := Lib.hid (CB.out.trans (hb3.mono CB.out.size)); clear hb3)
          go_roundw
          case rel => exact ⟨k + 1, by omega, by omega, by simp, HB3.out, Lib.hid fun j a b hj ha hb => by
            rcases Nat.lt_or_ge j k with h5 | h5
            · exact H0.out j a b h5 ha hb
            · obtain rfl : k = j := by omega
              rw [HX.out] at ha
              rw [HY.out] at hb
              rw [← Option.some.inj ha, ← Option.some.inj hb, ← HZ.out]⟩
          case measure => simp [intOf]; omega
        · have hzf : (z == 0) = false := by simpa using hz0
          have HZ0 := Lib.hid hz0
          go_wp2_with (go_at_call 32; refine (KC.out _).mono ?_; rintro e w3 ⟨rfl, hb3⟩; have HB3 := Lib.hid (CB.out.trans (hb3.mono CB.out.size)); clear hb3)
          go_ret
          exact ⟨by rw [lex_at cmp xs ys k x y H0.out HX.out HY.out (by rw [← HZ.out]; exact HZ0.out), ← HZ.out]; rfl, HB3.out⟩
      · have j2 : (n2 : Int) ≤ (k : Int) := by omega
        have HS : Hid (lexI cmp xs ys = 1) := Lib.hid (by rw [HE.out (.inr (by omega))]; unfold sgI; rw [if_neg (by omega), if_pos (by omega)])
        have CB : Hid (Below w.heap.size w (wr.alloc (.cells #[.int .u64 (hi x), .int .u64 (lo x)] 29))) := Lib.hid (HB.out.alloc HB.out.size _)
        clear hc1 hok1 hx
        go_wp2_with fail
        go_ret
        exact ⟨by rw [HS.out]; rfl, CB.out⟩
    · obtain rfl : k = n1 := by omega
      have j1 : ¬ (k : Int) < (k : Int) := by omega
      by_cases hl2 : k < n2
      · have j2 : (k : Int) < (n2 : Int) := by omega
        have HS : Hid (lexI cmp xs ys = -1) := Lib.hid (by rw [HE.out (.inl rfl)]; unfold sgI; rw [if_pos (by omega)])
        go_wp2_with fail
        go_ret
        exact ⟨by rw [HS.out]; rfl, HB.out⟩
      · have j2 : ¬ (k : Int) < (n2 : Int) := by omega
        have HS : Hid (lexI cmp xs ys = 0) := Lib.hid (by rw [HE.out (.inl rfl)]; unfold sgI; rw [if_neg (by omega), if_neg (by omega)])
        go_wp2_with fail
        go_ret
        exact ⟨by rw [HS.out]; rfl, HB.out⟩
theorem fst_five (a b c d e : Int) : (if fstNZ [a, b, c, d] = 0 then e else fstNZ [a, b, c, d]) = fstNZ [a, b, c, d, e] := by
  simp only [fstNZ]
  by_cases h0 : a = 0
  · by_cases h1 : b = 0
    · by_cases h2 : c = 0
      · by_cases h3 : d = 0
        · by_cases h4 : e = 0
          · simp [h0, h1, h2, h3, h4]
          · simp [h0, h1, h2, h3, h4]
        · simp [h0, h1, h2, h3]
      · simp [h0, h1, h2]
    · simp [h0, h1]
  · simp [h0]
set_option maxRecDepth 100000 in
set_option maxHeartbeats 4000000 in
theorem p_Compare {w : World} {B : Nat} (a b : EntryD) {A1 A2 U1 U2 : Option Addr} {n1 c1 n2 c2 m1 d1 m2 d2 : Nat} (h1 : RowV 8 MatchV B w (.slice A1 n1 c1) a.ms) (h2 : RowV 8 MatchV B w (.slice A2 n2 c2) b.ms) (k1 : RowV 2 ValV B w (.slice U1 m1 d1) a.args) (k2 : RowV 2 ValV B w (.slice U2 m2 d2) b.args) (hB : B ≤ w.heap.size) : Calls Try.prog 10 #[.agg #[.int .i64 a.table, .slice A1 n1 c1, .int .i64 a.prio, .int .i64 a.action, .slice U1 m1 d1], .agg #[.int .i64 b.table, .slice A2 n2 c2, .int .i64 b.prio, .int .i64 b.action, .slice U2 m2 d2]] w (RetX (.int .i64 (entI a b)) w) := by
  obtain ⟨W0, hW0⟩ : ∃ W, W = ((w.alloc (.cells #[.int .i64 a.table, .slice A1 n1 c1, .int .i64 a.prio, .int .i64 a.action, .slice U1 m1 d1] 26)).alloc (.cells #[.int .i64 b.table, .slice A2 n2 c2, .int .i64 b.prio, .int .i64 b.action, .slice U2 m2 d2] 26)) := ⟨_, rfl⟩
  have hB0 : Below w.heap.size w W0 := by rw [hW0]; exact (((Below.refl w.heap.size w).alloc (by simp <;> omega) _).alloc (by simp <;> omega) _)
  have hz0 : W0.heap.size = w.heap.size + 2 := by rw [hW0]; simp
  have b0_0 : W0.heap[w.heap.size]? = some (.cells #[.int .i64 a.table, .slice A1 n1 c1, .int .i64 a.prio, .int .i64 a.action, .slice U1 m1 d1] 26 (0, 0)) := by
    rw [hW0]
    exact (((Below.refl (w.alloc (.cells #[.int .i64 a.table, .slice A1 n1 c1, .int .i64 a.prio, .int .i64 a.action, .slice U1 m1 d1] 26)).heap.size (w.alloc (.cells #[.int .i64 a.table, .slice A1 n1 c1, .int .i64 a.prio, .int .i64 a.action, .slice U1 m1 d1] 26))).alloc (by simp <;> omega) _).block w.heap.size (by simp)).trans (heap_alloc_new _ _)
  have b0_1 : W0.heap[w.heap.size + 1]? = some (.cells #[.int .i64 b.table, .slice A2 n2 c2, .int .i64 b.prio, .int .i64 b.action, .slice U2 m2 d2] 26 (0, 0)) := by
    rw [hW0]
    rw [show w.heap.size + 1 = (w.alloc (.cells #[.int .i64 a.table, .slice A1 n1 c1, .int .i64 a.prio, .int .i64 a.action, .slice U1 m1 d1] 26)).heap.size by simp]
    exact heap_alloc_new _ _
  obtain ⟨M, hM⟩ : ∃ M, M = lexI matI a.ms b.ms := ⟨_, rfl⟩
  obtain ⟨V, hV⟩ : ∃ V, V = lexI cmp a.args b.args := ⟨_, rfl⟩
  have hto : ∀ W, Below W0.heap.size W0 W → Below w.heap.size w W := fun W hb => hB0.trans (hb.mono hB0.size)
  have K1 : Hid (∀ W, Below W0.heap.size W0 W → Calls Try.prog 29 #[.slice A1 n1 c1, .slice A2 n2 c2, .func (.func 30) #[] #[]] W (RetX (.int .i64 M) W)) := Lib.hid fun W hb => by
    rw [hM]
    exact p_matches (h1.below kept_match ((hto W hb).mono hB)) (h2.below kept_match ((hto W hb).mono hB)) (Nat.le_trans hB (hto W hb).size)
  have K2 : Hid (∀ W, Below W0.heap.size W0 W → Calls Try.prog 31 #[.slice U1 m1 d1, .slice U2 m2 d2, .func (.func 32) #[] #[]] W (RetX (.int .i64 V) W)) := Lib.hid fun W hb => by
    rw [hV]
    exact p_values (k1.below kept_val ((hto W hb).mono hB)) (k2.below kept_val ((hto W hb).mono hB)) (Nat.le_trans hB (hto W hb).size)
  obtain ⟨s0, hs0⟩ : ∃ s, s = sgI a.table b.table := ⟨_, rfl⟩
  obtain ⟨s1, hs1⟩ : ∃ s, s = sgI b.prio a.prio := ⟨_, rfl⟩
  obtain ⟨s3, hs3⟩ : ∃ s, s = sgI a.action b.action := ⟨_, rfl⟩
  have HR : Hid (entI a b = fstNZ [s0, s1, M, s3, V]) := Lib.hid (by
    have e : entI a b = if fstNZ [s0, s1, M, s3] = 0 then V else fstNZ [s0, s1, M, s3] := by rw [hs0, hs1, hs3, hM, hV]; rfl
    rw [e]
    exact fst_five s0 s1 M s3 V)
  have C5 : Hid (∀ W : World, Calls Try.prog 27 #[.slice (some ⟨W.heap.size, 0, none⟩) 5 5] (W.alloc (.cells #[.int .i64 s0, .int .i64 s1, .int .i64 M, .int .i64 s3, .int .i64 V] 3)) fun en w' => en = .returned (.int .i64 (fstNZ [s0, s1, M, s3, V])) ∧ Below (W.alloc (.cells #[.int .i64 s0, .int .i64 s1, .int .i64 M, .int .i64 s3, .int .i64 V] 3)).heap.size (W.alloc (.cells #[.int .i64 s0, .int .i64 s1, .int .i64 M, .int .i64 s3, .int .i64 V] 3)) w') := Lib.hid fun W => g_firstOf _ _ _ _ [s0, s1, M, s3, V] rfl (Nat.le_refl _) (by decide) (fun j v hj => by
      rw [World.cell?_alloc_new]
      match j, hj with
      | 0, hj => simpa using hj
      | 1, hj => simpa using hj
      | 2, hj => simpa using hj
      | 3, hj => simpa using hj
      | 4, hj => simpa using hj)
  have N0 : Hid (∀ W, Calls Try.prog 28 #[.int .i64 a.table, .int .i64 b.table] W fun e w' => e = .returned (.int .i64 s0) ∧ w' = W) := Lib.hid fun W => by rw [hs0]; exact g_cmp _ _ W
  have N1 : Hid (∀ W, Calls Try.prog 28 #[.int .i64 b.prio, .int .i64 a.prio] W fun e w' => e = .returned (.int .i64 s1) ∧ w' = W) := Lib.hid fun W => by rw [hs1]; exact g_cmp _ _ W
  have N3 : Hid (∀ W, Calls Try.prog 28 #[.int .i64 a.action, .int .i64 b.action] W fun e w' => e = .returned (.int .i64 s3) ∧ w' = W) := Lib.hid fun W => by rw [hs3]; exact g_cmp _ _ W
  have BA := Lib.hid b0_0
  have BB := Lib.hid b0_1
  have HKS : Hid (∀ w', Below W0.heap.size W0 w' → Below W0.heap.size W0 w' ∧ w'.cell? ⟨w.heap.size, 0, none⟩ = some (.int .i64 a.table) ∧ w'.cell? ⟨w.heap.size, 1, none⟩ = some (.slice A1 n1 c1) ∧ w'.cell? ⟨w.heap.size, 2, none⟩ = some (.int .i64 a.prio) ∧ w'.cell? ⟨w.heap.size, 3, none⟩ = some (.int .i64 a.action) ∧ w'.cell? ⟨w.heap.size, 4, none⟩ = some (.slice U1 m1 d1) ∧ w'.cell? ⟨w.heap.size + 1, 0, none⟩ = some (.int .i64 b.table) ∧ w'.cell? ⟨w.heap.size + 1, 1, none⟩ = some (.slice A2 n2 c2) ∧ w'.cell? ⟨w.heap.size + 1, 2, none⟩ = some (.int .i64 b.prio) ∧ w'.cell? ⟨w.heap.size + 1, 3, none⟩ = some (.int .i64 b.action) ∧ w'.cell? ⟨w.heap.size + 1, 4, none⟩ = some (.slice U2 m2 d2)) := Lib.hid fun w' hb => by
    have q0 := (hb.block w.heap.size (by omega)).trans b0_0
    have q1 := (hb.block (w.heap.size + 1) (by omega)).trans b0_1
    exact ⟨hb, blk_cell q0 0 _ rfl, blk_cell q0 1 _ rfl, blk_cell q0 2 _ rfl, blk_cell q0 3 _ rfl, blk_cell q0 4 _ rfl, blk_cell q1 0 _ rfl, blk_cell q1 1 _ rfl, blk_cell q1 2 _ rfl, blk_cell q1 3 _ rfl, blk_cell q1 4 _ rfl⟩
  have HB0 := Lib.hid hB0
  have HW0 := Lib.hid hW0
  clear hB0 hW0 b0_0 b0_1 hto h1 h2 k1 k2 hM hV hs0 hs1 hs3
  go_enter Try.func10, Try.ntmps10
  go_upto_region 1 with fail
  rw [← HW0.out]
  go_region_held3 (fun w' => Below W0.heap.size W0 w' ∧ w'.cell? ⟨w.heap.size, 0, none⟩ = some (.int .i64 a.table) ∧ w'.cell? ⟨w.heap.size, 1, none⟩ = some (.slice A1 n1 c1) ∧ w'.cell? ⟨w.heap.size, 2, none⟩ = some (.int .i64 a.prio) ∧ w'.cell? ⟨w.heap.size, 3, none⟩ = some (.int .i64 a.action) ∧ w'.cell? ⟨w.heap.size, 4, none⟩ = some (.slice U1 m1 d1) ∧ w'.cell? ⟨w.heap.size + 1, 0, none⟩ = some (.int .i64 b.table) ∧ w'.cell? ⟨w.heap.size + 1, 1, none⟩ = some (.slice A2 n2 c2) ∧ w'.cell? ⟨w.heap.size + 1, 2, none⟩ = some (.int .i64 b.prio) ∧ w'.cell? ⟨w.heap.size + 1, 3, none⟩ = some (.int .i64 b.action) ∧ w'.cell? ⟨w.heap.size + 1, 4, none⟩ = some (.slice U2 m2 d2))
    (first
      | exact HKS.out _ (Below.drew (Below.refl _ _))
      | exact HKS.out _ (below_call (And.left (by assumption)) (by assumption))
      | exact HKS.out _ (below_alloc (And.left (by assumption)) _)
      | assumption)
    (first
      | (go_at_call 28; (with_reducible refine (N0.out _).mono ?_); rintro en u0 ⟨rfl, rfl⟩)
      | (go_at_call 28; (with_reducible refine (N1.out _).mono ?_); rintro en u1 ⟨rfl, rfl⟩)
      | (go_at_call 29; (with_reducible refine (K1.out _ (And.left (by assumption))).mono ?_); rintro en u2 ⟨rfl, hu2⟩)
      | (go_at_call 28; (with_reducible refine (N3.out _).mono ?_); rintro en u3 ⟨rfl, rfl⟩)
      | (go_at_call 31; (with_reducible refine (K2.out _ (And.left (by assumption))).mono ?_); rintro en u4 ⟨rfl, hu4⟩)
      | (go_at_call 27; (with_reducible refine (C5.out _).mono ?_); rintro en u5 ⟨rfl, hu5⟩))
  go_wp2_with fail
  go_ret
  exact ⟨by rw [HR.out]; rfl, HB0.out.trans ((And.left (by assumption : Below W0.heap.size W0 _ ∧ _)).mono HB0.out.size)⟩
end Go.Proofs.Ythldelnibgdnaaa
