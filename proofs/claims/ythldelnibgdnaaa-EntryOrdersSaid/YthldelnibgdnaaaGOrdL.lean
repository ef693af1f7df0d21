/- The reference's orders of lists. -/
import Derived.Test.YthldelnibgdnaaaGOrdF
namespace Go.Proofs.Ythldelnibgdnaaa
open Go.RowKit
/-- the order of lists -/
def lexI {α : Type} (f : α → α → Int) : List α → List α → Int
  | [], [] => 0
  | [], _ :: _ => -1
  | _ :: _, [] => 1
  | x :: xs, y :: ys => if f x y = 0 then lexI f xs ys else f x y
theorem lex_at {α : Type} (f : α → α → Int) : ∀ (xs ys : List α) (k : Nat) (x y : α), (∀ j a b, j < k → xs[j]? = some a → ys[j]? = some b → f a b = 0) → xs[k]? = some x → ys[k]? = some y → f x y ≠ 0 → lexI f xs ys = f x y
  | [], _, _, _, _, _, hx, _, _ => by simp at hx
  | _ :: _, [], _, _, _, _, _, hy, _ => by simp at hy
  | a :: xs, b :: ys, 0, x, y, _, hx, hy, h => by
    simp at hx hy
    subst hx; subst hy
    unfold lexI
    rw [if_neg h]
  | a :: xs, b :: ys, k + 1, x, y, h0, hx, hy, h => by
    unfold lexI
    rw [if_pos (h0 0 a b (by omega) rfl rfl)]
    exact lex_at f xs ys k x y (fun j a b hj h1 h2 => h0 (j + 1) a b (by omega) (by simpa using h1) (by simpa using h2)) (by simpa using hx) (by simpa using hy) h
theorem lex_end {α : Type} (f : α → α → Int) : ∀ (xs ys : List α), (∀ (j : Nat) (a b : α), xs[j]? = some a → ys[j]? = some b → f a b = 0) → lexI f xs ys = sgI xs.length ys.length
  | [], [], _ => by unfold lexI sgI; simp
  | [], _ :: _, _ => by unfold lexI sgI; simp
  | _ :: _, [], _ => by unfold lexI sgI; simp; omega
  | a :: xs, b :: ys, h => by
    unfold lexI
    rw [if_pos (h 0 a b rfl rfl), lex_end f xs ys fun j a b h1 h2 => h (j + 1) a b (by simpa using h1) (by simpa using h2)]
    unfold sgI
    simp
set_option maxRecDepth 100000 in
set_option maxHeartbeats 1500000 in
theorem r_matches {w : World} {B : Nat} {A1 A2 : Option Addr} {n1 c1 n2 c2 : Nat} {xs ys : List MatchD} (h1 : RowV 8 MatchV B w (.slice A1 n1 c1) xs) (h2 : RowV 8 MatchV B w (.slice A2 n2 c2) ys) (hB : B ≤ w.heap.size) : Calls Try.prog 34 #[.slice A1 n1 c1, .slice A2 n2 c2] w (RetX (.int .i64 (lexI matI xs ys)) w) := by
  obtain ⟨hn1, hm1, hx1⟩ := h1.len
  obtain ⟨hn2, hm2, hx2⟩ := h2.len
  have H1 := Lib.hid h1
  have H2 := Lib.hid h2
  clear h1 h2
  go_enter Try.func34, Try.ntmps34
  go_wp2_with fail
  go_loopw [5] (fun i W => ∃ k : Nat, k ≤ n1 ∧ k ≤ n2 ∧ i = .int .i64 k ∧ Below w.heap.size w W ∧ Hid (∀ j a b, j < k → xs[j]? = some a → ys[j]? = some b → matI a b = 0)) (fun i _ => n1 - (intOf i).toNat)
  case atStart => exact ⟨0, by omega, by omega, rfl, Below.refl _ _, Lib.hid fun j a b hj => by omega⟩
  case round =>
    obtain ⟨k, hk1, hk2, rfl, hb, H0⟩ := hrel
    have HB := Lib.hid hb
    clear hb
    by_cases hlt : k < n1 ∧ k < n2
    · have j1 : (k : Int) < (n1 : Int) := by omega
      have j2 : (k : Int) < (n2 : Int) := by omega
      have j3 : (k : Int) < (c1 : Int) := by omega
      have j4 : (k : Int) < (c2 : Int) := by omega
      have j0 : 0 ≤ (k : Int) := by omega
      obtain ⟨g1, o1, e1, x, hx, hg1, cs, hc1, hV1⟩ := row_at (H1.out.below kept_match (HB.out.mono hB)) (q := k) (by rw [← hn1.out]; omega)
      obtain ⟨g2, o2, e2, y, hy, hg2, ds, hc2, hV2⟩ := row_at (H2.out.below kept_match (HB.out.mono hB)) (q := k) (by rw [← hn2.out]; omega)
      obtain ⟨rfl, hok1⟩ := hV1
      obtain ⟨rfl, hok2⟩ := hV2
      subst e1
      subst e2
      have x0 : wr.cell? ⟨g1, o1 + k * 8, none⟩ = some (.bool x.pres) := hc1.at0 _ rfl
      have y0 : wr.cell? ⟨g2, o2 + k * 8, none⟩ = some (.bool y.pres) := hc2.at0 _ rfl
      have x1 : wr.cell? ⟨g1, o1 + k * 8 + 1, none⟩ = some (.int .u64 (hi x.val)) := hc1.at 1 _ rfl
      have y1 : wr.cell? ⟨g2, o2 + k * 8 + 1, none⟩ = some (.int .u64 (hi y.val)) := hc2.at 1 _ rfl
      have x2 : wr.cell? ⟨g1, o1 + k * 8 + 2, none⟩ = some (.int .u64 (lo x.val)) := hc1.at 2 _ rfl
      have y2 : wr.cell? ⟨g2, o2 + k * 8 + 2, none⟩ = some (.int .u64 (lo y.val)) := hc2.at 2 _ rfl
      have x3 : wr.cell? ⟨g1, o1 + k * 8 + 3, none⟩ = some (.int .u64 (hi x.mask)) := hc1.at 3 _ rfl
      have y3 : wr.cell? ⟨g2, o2 + k * 8 + 3, none⟩ = some (.int .u64 (hi y.mask)) := hc2.at 3 _ rfl
      have x4 : wr.cell? ⟨g1, o1 + k * 8 + 4, none⟩ = some (.int .u64 (lo x.mask)) := hc1.at 4 _ rfl
      have y4 : wr.cell? ⟨g2, o2 + k * 8 + 4, none⟩ = some (.int .u64 (lo y.mask)) := hc2.at 4 _ rfl
      have x5 : wr.cell? ⟨g1, o1 + k * 8 + 5, none⟩ = some (.int .i64 x.pre) := hc1.at 5 _ rfl
      have y5 : wr.cell? ⟨g2, o2 + k * 8 + 5, none⟩ = some (.int .i64 y.pre) := hc2.at 5 _ rfl
      have x6 : wr.cell? ⟨g1, o1 + k * 8 + 6, none⟩ = some (.int .u64 (hi x.high)) := hc1.at 6 _ rfl
      have y6 : wr.cell? ⟨g2, o2 + k * 8 + 6, none⟩ = some (.int .u64 (hi y.high)) := hc2.at 6 _ rfl
      have x7 : wr.cell? ⟨g1, o1 + k * 8 + 7, none⟩ = some (.int .u64 (lo x.high)) := hc1.at 7 _ rfl
      have y7 : wr.cell? ⟨g2, o2 + k * 8 + 7, none⟩ = some (.int .u64 (lo y.high)) := hc2.at 7 _ rfl
      have HX := Lib.hid hx
      have HY := Lib.hid hy
      obtain ⟨z, hz⟩ : ∃ z, z = matI x y := ⟨_, rfl⟩
      have KC : Hid (∀ W, Calls Try.prog 46 #[.agg #[.bool x.pres, .int .u64 (hi x.val), .int .u64 (lo x.val), .int .u64 (hi x.mask), .int .u64 (lo x.mask), .int .i64 x.pre, .int .u64 (hi x.high), .int .u64 (lo x.high)], .agg #[.bool y.pres, .int .u64 (hi y.val), .int .u64 (lo y.val), .int .u64 (hi y.mask), .int .u64 (lo y.mask), .int .i64 y.pre, .int .u64 (hi y.high), .int .u64 (lo y.high)]] W (RetX (.int .i64 z) W)) := Lib.hid fun W => by rw [hz]; exact r_match x y hok1 hok2 W
      have HZ := Lib.hid hz
      clear hc1 hc2 hok1 hok2 hx hy hz
      go_wp2_with fail
      go_region_with (go_at_call 46; refine (KC.out _).mono ?_; rintro e w3 ⟨rfl, hb3⟩; have HB3 := Lib.hid ((HB.out.trans (Below.refl _ _).drew).trans (hb3.mono HB.out.size)); clear hb3)
      all_goals
        by_cases hz0 : z = 0
        · have HZ0 := Lib.hid hz0
          subst hz0
          go_wp2_with fail
          go_roundw
          case rel => exact ⟨k + 1, by omega, by omega, by simp, HB3.out, Lib.hid fun j a b hj ha hb => by
            rcases Nat.lt_or_ge j k with h5 | h5
            · exact H0.out j a b h5 ha hb
            · obtain rfl : k = j := by omega
              rw [HX.out] at ha
              rw [HY.out] at hb
              rw [← Option.some.inj ha, ← Option.some.inj hb, ← HZ.out]⟩
          case measure => simp [intOf]; omega
        · have hzf : (z == 0) = false := by simpa using hz0
          have HZ0 := Lib.hid hz0
          go_wp2_with fail
          go_ret
          exact ⟨by rw [lex_at matI xs ys k x y H0.out HX.out HY.out (by rw [← HZ.out]; exact HZ0.out), ← HZ.out]; rfl, HB3.out⟩
    · have HE : Hid (lexI matI xs ys = sgI n1 n2) := Lib.hid (by
        rw [hn1.out, hn2.out]
        refine lex_end matI xs ys fun j a b ha hb => H0.out j a b ?_ ha hb
        have a1 := (List.getElem?_eq_some_iff.1 ha).1
        have a2 := (List.getElem?_eq_some_iff.1 hb).1
        have := hn1.out
        have := hn2.out
        omega)
      by_cases hlt1 : k < n1
      · have j1 : (k : Int) < (n1 : Int) := by omega
        have j2 : ¬ (k : Int) < (n2 : Int) := by omega
        go_wp2_with ((with_reducible refine (r_number _ _ _).mono ?_); rintro en v1 ⟨rfl, rfl⟩)
        go_ret
        exact ⟨by rw [HE.out]; rfl, HB.out⟩
      · have j1 : ¬ (k : Int) < (n1 : Int) := by omega
        go_wp2_with ((with_reducible refine (r_number _ _ _).mono ?_); rintro en v1 ⟨rfl, rfl⟩)
        go_ret
        exact ⟨by rw [HE.out]; rfl, HB.out⟩
set_option maxRecDepth 100000 in
set_option maxHeartbeats 1500000 in
theorem r_values {w : World} {B : Nat} {A1 A2 : Option Addr} {n1 c1 n2 c2 : Nat} {xs ys : List Nat} (h1 : RowV 2 ValV B w (.slice A1 n1 c1) xs) (h2 : RowV 2 ValV B w (.slice A2 n2 c2) ys) (hB : B ≤ w.heap.size) : Calls Try.prog 35 #[.slice A1 n1 c1, .slice A2 n2 c2] w (RetX (.int .i64 (lexI cmp xs ys)) w) := by
  obtain ⟨hn1, hm1, hx1⟩ := h1.len
  obtain ⟨hn2, hm2, hx2⟩ := h2.len
  have H1 := Lib.hid h1
  have H2 := Lib.hid h2
  clear h1 h2
  go_enter Try.func35, Try.ntmps35
  go_wp2_with fail
  go_loopw [5] (fun i W => ∃ k : Nat, k ≤ n1 ∧ k ≤ n2 ∧ i = .int .i64 k ∧ Below w.heap.size w W ∧ Hid (∀ j a b, j < k → xs[j]? = some a → ys[j]? = some b → cmp a b = 0)) (fun i _ => n1 - (intOf i).toNat)
  case atStart => exact ⟨0, by omega, by omega, rfl, Below.refl _ _, Lib.hid fun j a b hj => by omega⟩
  case round =>
    obtain ⟨k, hk1, hk2, rfl, hb, H0⟩ := hrel
    have HB := Lib.hid hb
    clear hb
    by_cases hlt : k < n1 ∧ k < n2
    · have j1 : (k : Int) < (n1 : Int) := by omega
      have j2 : (k : Int) < (n2 : Int) := by omega
      have j3 : (k : Int) < (c1 : Int) := by omega
      have j4 : (k : Int) < (c2 : Int) := by omega
      have j0 : 0 ≤ (k : Int) := by omega
      obtain ⟨g1, o1, e1, x, hx, hg1, cs, hc1, hV1⟩ := row_at (H1.out.below kept_val (HB.out.mono hB)) (q := k) (by rw [← hn1.out]; omega)
      obtain ⟨g2, o2, e2, y, hy, hg2, ds, hc2, hV2⟩ := row_at (H2.out.below kept_val (HB.out.mono hB)) (q := k) (by rw [← hn2.out]; omega)
      obtain ⟨rfl, hok1⟩ := hV1
      obtain ⟨rfl, hok2⟩ := hV2
      subst e1
      subst e2
      have x0 : wr.cell? ⟨g1, o1 + k * 2, none⟩ = some (.int .u64 (hi x)) := hc1.at0 _ rfl
      have y0 : wr.cell? ⟨g2, o2 + k * 2, none⟩ = some (.int .u64 (hi y)) := hc2.at0 _ rfl
      have x1 : wr.cell? ⟨g1, o1 + k * 2 + 1, none⟩ = some (.int .u64 (lo x)) := hc1.at 1 _ rfl
      have y1 : wr.cell? ⟨g2, o2 + k * 2 + 1, none⟩ = some (.int .u64 (lo y)) := hc2.at 1 _ rfl
      have HX := Lib.hid hx
      have HY := Lib.hid hy
      obtain ⟨z, hz⟩ : ∃ z, z = cmp x y := ⟨_, rfl⟩
      have KC : Hid (∀ W, Calls Try.prog 47 #[.agg #[.int .u64 (hi x), .int .u64 (lo x)], .agg #[.int .u64 (hi y), .int .u64 (lo y)]] W (RetX (.int .i64 z) W)) := Lib.hid fun W => by rw [hz]; exact rcompare_any x y hok1 hok2 W
      have HZ := Lib.hid hz
      clear hc1 hc2 hok1 hok2 hx hy hz
      go_wp2_with fail
      go_region_with (go_at_call 47; refine (KC.out _).mono ?_; rintro e w3 ⟨rfl, hb3⟩; have HB3 := Lib.hid ((HB.out.trans (Below.refl _ _).drew).trans (hb3.mono HB.out.size)); clear hb3)
      all_goals
        by_cases hz0 : z = 0
        · have HZ0 := Lib.hid hz0
          subst hz0
          go_wp2_with fail
          go_roundw
          case rel => exact ⟨k + 1, by omega, by omega, by simp, HB3.out, Lib.hid fun j a b hj ha hb => by
            rcases Nat.lt_or_ge j k with h5 | h5
            · exact H0.out j a b h5 ha hb
            · obtain rfl : k = j := by omega
              rw [HX.out] at ha
              rw [HY.out] at hb
              rw [← Option.some.inj ha, ← Option.some.inj hb, ← HZ.out]⟩
          case measure => simp [intOf]; omega
        · have hzf : (z == 0) = false := by simpa using hz0
          have HZ0 := Lib.hid hz0
          go_wp2_with fail
          go_ret
          exact ⟨by rw [lex_at cmp xs ys k x y H0.out HX.out HY.out (by rw [← HZ.out]; exact HZ0.out), ← HZ.out]; rfl, HB3.out⟩
    · have HE : Hid (lexI cmp xs ys = sgI n1 n2) := Lib.hid (by
        rw [hn1.out, hn2.out]
        refine lex_end cmp xs ys fun j a b ha hb => H0.out j a b ?_ ha hb
        have a1 := (List.getElem?_eq_some_iff.1 ha).1
        have a2 := (List.getElem?_eq_some_iff.1 hb).1
        have := hn1.out
        have := hn2.out
        omega)
      by_cases hlt1 : k < n1
      · have j1 : (k : Int) < (n1 : Int) := by omega
        have j2 : ¬ (k : Int) < (n2 : Int) := by omega
        go_wp2_with ((with_reducible refine (r_number _ _ _).mono ?_); rintro en v1 ⟨rfl, rfl⟩)
        go_ret
        exact ⟨by rw [HE.out]; rfl, HB.out⟩
      · have j1 : ¬ (k : Int) < (n1 : Int) := by omega
        go_wp2_with ((with_reducible refine (r_number _ _ _).mono ?_); rintro en v1 ⟨rfl, rfl⟩)
        go_ret
        exact ⟨by rw [HE.out]; rfl, HB.out⟩
end Go.Proofs.Ythldelnibgdnaaa
