/- The law ValueOrders: its walk. -/
import Derived.Test.YthpiohhgfofmeaaCmp
import Derived.Test.YthpiohhgfofmeaaRings
import Derived.Deep.DeepCutAuto
namespace Go.Proofs.Ythpiohhgfofmeaa
open Go.RowKit

/-- The call returns the value n, and has made two blocks. -/
def RetA (n : Nat) (w : World) (e : Ending) (w' : World) : Prop := ∃ c1 c2 : Array Value, e = .returned (.agg #[.int .u64 (hi n), .int .u64 (lo n)]) ∧ w' = (w.alloc (.cells c1 24)).alloc (.cells c2 24)
set_option maxHeartbeats 400000 in
theorem right_one (a : Nat) (ha : a < 2 ^ 128) (w : World) :
    Calls Try.prog 29 #[.agg #[.int .u64 (hi a), .int .u64 (lo a)], .int .i64 1] w (RetA (a / 2) w) := by
  have H1 := Lib.hid (right_lo_small a 1 (by omega) (by omega))
  have H2 := Lib.hid (right_hi_small a 1 (by omega) ha)
  clear ha
  go_enter Try.func29, Try.ntmps29
  go_wp2
  refine bodyPost_ret (v := .agg #[.int .u64 (hi (a / 2)), .int .u64 (lo (a / 2))]) (by rw [show a / 2 = a / 2 ^ 1 by omega, ← H1.out, ← H2.out]; simp [results, Try.results29, go_sem, IntKind.wrap_u64]) rfl ⟨_, _, rfl, rfl⟩

theorem keepXYZ {W0 W : World} {p q r : Nat} {x0 x1 y0 y1 z0 z1 : Value} (hp : p < W0.heap.size) (hq : q < W0.heap.size) (hr : r < W0.heap.size) (c0 : W0.cell? ⟨p, 0, none⟩ = some x0) (c1 : W0.cell? ⟨p, 1, none⟩ = some x1) (c2 : W0.cell? ⟨q, 0, none⟩ = some y0) (c3 : W0.cell? ⟨q, 1, none⟩ = some y1)
    (c4 : W0.cell? ⟨r, 0, none⟩ = some z0) (c5 : W0.cell? ⟨r, 1, none⟩ = some z1) (hb : Below W0.heap.size W0 W) :
    Below W0.heap.size W0 W ∧ W.cell? ⟨p, 0, none⟩ = some x0 ∧ W.cell? ⟨p, 1, none⟩ = some x1 ∧ W.cell? ⟨q, 0, none⟩ = some y0 ∧ W.cell? ⟨q, 1, none⟩ = some y1 ∧ W.cell? ⟨r, 0, none⟩ = some z0 ∧ W.cell? ⟨r, 1, none⟩ = some z1 :=
  ⟨hb, by rw [hb.cell (p := ⟨_, _, none⟩) hp]; exact c0, by rw [hb.cell (p := ⟨_, _, none⟩) hp]; exact c1, by rw [hb.cell (p := ⟨_, _, none⟩) hq]; exact c2, by rw [hb.cell (p := ⟨_, _, none⟩) hq]; exact c3, by rw [hb.cell (p := ⟨_, _, none⟩) hr]; exact c4, by rw [hb.cell (p := ⟨_, _, none⟩) hr]; exact c5⟩
theorem cmp_neg (a b : Nat) : cmp b a = -cmp a b := by
  unfold cmp
  by_cases h1 : a = b
  · subst h1; simp
  · by_cases h2 : a < b
    · rw [if_neg h1, if_pos h2, if_neg (by omega), if_neg (by omega)]; rfl
    · rw [if_neg h1, if_neg h2, if_neg (by omega), if_pos (by omega)]
theorem cmp_self (a : Nat) : cmp a a = 0 := by simp [cmp]
theorem cmp_1 (a b : Nat) : -1 ≤ cmp a b := by unfold cmp; split <;> (try split) <;> decide
theorem cmp_2 (a b : Nat) : cmp a b ≤ 1 := by unfold cmp; split <;> (try split) <;> decide
theorem cmp_add (p q k : Nat) (hp : p < 2 ^ 127) (hq : q < 2 ^ 127) (hk : k < 18446744073709551616) : cmp (vadd 128 p k) (vadd 128 q k) = cmp p q := by
  unfold vadd
  rw [cl_128, Nat.mod_eq_of_lt (by omega), Nat.mod_eq_of_lt (by omega)]
  unfold cmp
  by_cases h1 : p = q
  · subst h1; simp
  · by_cases h2 : p < q
    · rw [if_neg h1, if_pos h2, if_neg (by omega), if_pos (by omega)]
    · rw [if_neg h1, if_neg h2, if_neg (by omega), if_neg (by omega)]

/-- Two values lie in blocks x and y. -/
structure ValsAt (w : World) (p q x y : Nat) (w' : World) : Prop where
  below : Below w.heap.size w w'
  gx : w.heap.size ≤ x
  gy : w.heap.size ≤ y
  lx : x < w'.heap.size
  ly : y < w'.heap.size
  x0 : w'.cell? ⟨x, 0, none⟩ = some (.int .u64 (hi p))
  x1 : w'.cell? ⟨x, 1, none⟩ = some (.int .u64 (lo p))
  y0 : w'.cell? ⟨y, 0, none⟩ = some (.int .u64 (hi q))
  y1 : w'.cell? ⟨y, 1, none⟩ = some (.int .u64 (lo q))

set_option maxRecDepth 100000 in
set_option maxHeartbeats 4000000 in
theorem orderslaw_any (a b k : Nat) (ha : a < 2 ^ 128) (hb : b < 2 ^ 128) (hk : k < 18446744073709551616) (w : World) :
    Calls Try.prog 6 #[.agg #[.int .u64 (hi a), .int .u64 (lo a)], .agg #[.int .u64 (hi b), .int .u64 (lo b)], .int .u64 k] w (RetX (.bool true) w) := by
  have HA := Lib.hid ha
  have HB := Lib.hid hb
  have HK := Lib.hid hk
  have hp2 : a / 2 < 2 ^ 127 := by omega
  have hq2 : b / 2 < 2 ^ 127 := by omega
  have HP2 := Lib.hid hp2
  have HQ2 := Lib.hid hq2
  clear ha hb hk hp2 hq2
  go_enter Try.func6, Try.ntmps6
  go_upto_region 1 with fail
  have c0 : ((w.alloc (.cells #[.int .u64 (hi a), .int .u64 (lo a)] 24)).alloc (.cells #[.int .u64 (hi b), .int .u64 (lo b)] 24)).cell? ⟨w.heap.size, 0, none⟩ = some (.int .u64 (hi a)) := by simp [go_sem]
  have c1 : ((w.alloc (.cells #[.int .u64 (hi a), .int .u64 (lo a)] 24)).alloc (.cells #[.int .u64 (hi b), .int .u64 (lo b)] 24)).cell? ⟨w.heap.size, 1, none⟩ = some (.int .u64 (lo a)) := by simp [go_sem]
  have c2 : ((w.alloc (.cells #[.int .u64 (hi a), .int .u64 (lo a)] 24)).alloc (.cells #[.int .u64 (hi b), .int .u64 (lo b)] 24)).cell? ⟨w.heap.size + 1, 0, none⟩ = some (.int .u64 (hi b)) := by simp [go_sem]
  have c3 : ((w.alloc (.cells #[.int .u64 (hi a), .int .u64 (lo a)] 24)).alloc (.cells #[.int .u64 (hi b), .int .u64 (lo b)] 24)).cell? ⟨w.heap.size + 1, 1, none⟩ = some (.int .u64 (lo b)) := by simp [go_sem]
  have sz : ((w.alloc (.cells #[.int .u64 (hi a), .int .u64 (lo a)] 24)).alloc (.cells #[.int .u64 (hi b), .int .u64 (lo b)] 24)).heap.size = w.heap.size + 2 := by simp
  have bl : Below w.heap.size w ((w.alloc (.cells #[.int .u64 (hi a), .int .u64 (lo a)] 24)).alloc (.cells #[.int .u64 (hi b), .int .u64 (lo b)] 24)) := ((Below.refl _ _).alloc (by simp) _).alloc (by simp) _
  generalize hW : ((w.alloc (.cells #[.int .u64 (hi a), .int .u64 (lo a)] 24)).alloc (.cells #[.int .u64 (hi b), .int .u64 (lo b)] 24)) = W0 at c0 c1 c2 c3 sz bl ⊢
  clear hW
  have hp : w.heap.size < W0.heap.size := by omega
  have hq : w.heap.size + 1 < W0.heap.size := by omega
  clear sz
  have e1 := cmp_neg a b
  have e2 := cmp_self a
  have b1 := cmp_1 a b
  have b2 := cmp_2 a b
  have s1 : IntKind.i64.wrap (-cmp a b) = -cmp a b := IntWalk.i64_in _ (by omega)
  go_region_held3 (fun w' => Below W0.heap.size W0 w' ∧ w'.cell? ⟨w.heap.size, 0, none⟩ = some (.int .u64 (hi a)) ∧ w'.cell? ⟨w.heap.size, 1, none⟩ = some (.int .u64 (lo a)) ∧
      w'.cell? ⟨w.heap.size + 1, 0, none⟩ = some (.int .u64 (hi b)) ∧ w'.cell? ⟨w.heap.size + 1, 1, none⟩ = some (.int .u64 (lo b)))
    (first
      | exact keep2 hp hq c0 c1 c2 c3 (Below.drew (Below.refl _ _))
      | exact keep2 hp hq c0 c1 c2 c3 (belowCall (by assumption) (by assumption)))
    (first
      | (go_at_call 37; refine (compare_any _ _ (by first | exact HA.out | exact HB.out) (by first | exact HA.out | exact HB.out) _).mono ?_; rintro e w' ⟨rfl, hx⟩)
      | (go_at_call 38; refine (rcompare_any a b HA.out HB.out _).mono ?_; rintro e w' ⟨rfl, hx⟩))
  go_upto_region 3 with fail
  obtain ⟨hB1, d0, d1, d2, d3⟩ := (by assumption : Below W0.heap.size W0 w' ∧ w'.cell? ⟨w.heap.size, 0, none⟩ = some (.int .u64 (hi a)) ∧ w'.cell? ⟨w.heap.size, 1, none⟩ = some (.int .u64 (lo a)) ∧
      w'.cell? ⟨w.heap.size + 1, 0, none⟩ = some (.int .u64 (hi b)) ∧ w'.cell? ⟨w.heap.size + 1, 1, none⟩ = some (.int .u64 (lo b)))
  have bl1 := bl.trans (hB1.mono bl.size)
  have hp1 : w.heap.size < w'.heap.size := Nat.lt_of_lt_of_le hp hB1.size
  have hq1 : w.heap.size + 1 < w'.heap.size := Nat.lt_of_lt_of_le hq hB1.size
  clear c0 c1 c2 c3 e1 e2 b1 b2 s1 hB1 hp hq bl
  generalize w' = W1 at *
  go_cut [7, 8] (fun x y wx => ∃ bx b', x = .pointer (some ⟨bx, 0, none⟩) ∧ y = .pointer (some ⟨b', 0, none⟩) ∧ ValsAt w (a / 2) (b / 2) bx b' wx)
  case first =>
    go_region_held3 (fun w' => Below W1.heap.size W1 w' ∧ w'.cell? ⟨w.heap.size, 0, none⟩ = some (.int .u64 (hi a)) ∧ w'.cell? ⟨w.heap.size, 1, none⟩ = some (.int .u64 (lo a)) ∧
        w'.cell? ⟨w.heap.size + 1, 0, none⟩ = some (.int .u64 (hi b)) ∧ w'.cell? ⟨w.heap.size + 1, 1, none⟩ = some (.int .u64 (lo b)))
      ((refine keep2 hp1 hq1 d0 d1 d2 d3 ?_; repeat (first | exact Below.refl _ _ | refine Below.drew ?_ | refine Below.alloc ?_ (by first | (simp; done) | (simp; omega)) _)))
      (first
        | (go_at_call 29; refine (right_one _ (by first | exact HA.out | exact HB.out) _).mono ?_; rintro e w' ⟨q1, q2, rfl, rfl⟩))
    all_goals go_wp2_with fail
    all_goals go_meet
    all_goals go_light
    all_goals have hw1 := bl1.size
    all_goals refine ⟨_, _, rfl, rfl, bl1.trans (Below.mono (B := W1.heap.size) ?_ hw1), by omega, by omega, by simp [World.drew] <;> omega, by simp [World.drew] <;> omega, by simp [go_sem], by simp [go_sem], by simp [go_sem], by simp [go_sem]⟩
    all_goals (repeat (first | exact Below.refl _ _ | refine Below.drew ?_ | refine Below.alloc ?_ (by first | (simp; done) | (simp; omega)) _))
  case rest =>
    obtain ⟨x, y, rfl, rfl, hT⟩ := hcut
    clear d0 d1 d2 d3 bl1 hp1 hq1
    obtain ⟨hbl, gx, gy, lx, ly, x0, x1, y0, y1⟩ := hT
    go_wp2_with (go_at_call 39; refine (of_any k HK.out _).mono ?_; rintro e w2 ⟨rfl, hx2⟩)
    have hB5 : Below w.heap.size w (w2.alloc (.cells #[.int .u64 (hi k), .int .u64 (lo k)] 24)) := (hbl.trans (hx2.mono hbl.size)).alloc (Nat.le_trans hbl.size hx2.size) _
    have lx2 : x < w2.heap.size := Nat.lt_of_lt_of_le lx hx2.size
    have ly2 : y < w2.heap.size := Nat.lt_of_lt_of_le ly hx2.size
    have z0 : (w2.alloc (.cells #[.int .u64 (hi k), .int .u64 (lo k)] 24)).cell? ⟨w2.heap.size, 0, none⟩ = some (.int .u64 (hi k)) := by simp [go_sem]
    have z1 : (w2.alloc (.cells #[.int .u64 (hi k), .int .u64 (lo k)] 24)).cell? ⟨w2.heap.size, 1, none⟩ = some (.int .u64 (lo k)) := by simp [go_sem]
    have x0 : (w2.alloc (.cells #[.int .u64 (hi k), .int .u64 (lo k)] 24)).cell? ⟨x, 0, none⟩ = some (.int .u64 (hi (a / 2))) := by rw [World.cell?_alloc_past _ _ _ lx2, hx2.cell (p := ⟨_, _, none⟩) lx]; exact x0
    have x1 : (w2.alloc (.cells #[.int .u64 (hi k), .int .u64 (lo k)] 24)).cell? ⟨x, 1, none⟩ = some (.int .u64 (lo (a / 2))) := by rw [World.cell?_alloc_past _ _ _ lx2, hx2.cell (p := ⟨_, _, none⟩) lx]; exact x1
    have y0 : (w2.alloc (.cells #[.int .u64 (hi k), .int .u64 (lo k)] 24)).cell? ⟨y, 0, none⟩ = some (.int .u64 (hi (b / 2))) := by rw [World.cell?_alloc_past _ _ _ ly2, hx2.cell (p := ⟨_, _, none⟩) ly]; exact y0
    have y1 : (w2.alloc (.cells #[.int .u64 (hi k), .int .u64 (lo k)] 24)).cell? ⟨y, 1, none⟩ = some (.int .u64 (lo (b / 2))) := by rw [World.cell?_alloc_past _ _ _ ly2, hx2.cell (p := ⟨_, _, none⟩) ly]; exact y1
    have lx5 : x < (w2.alloc (.cells #[.int .u64 (hi k), .int .u64 (lo k)] 24)).heap.size := by simp; omega
    have ly5 : y < (w2.alloc (.cells #[.int .u64 (hi k), .int .u64 (lo k)] 24)).heap.size := by simp; omega
    have lz5 : w2.heap.size < (w2.alloc (.cells #[.int .u64 (hi k), .int .u64 (lo k)] 24)).heap.size := by simp
    generalize w2.alloc (.cells #[.int .u64 (hi k), .int .u64 (lo k)] 24) = W5 at hB5 z0 z1 x0 x1 y0 y1 lx5 ly5 lz5 ⊢
    generalize w2.heap.size = z at z0 z1 lz5 ⊢
    obtain ⟨s1, hs1⟩ : ∃ n : Nat, n = vadd 128 (a / 2) k := ⟨_, rfl⟩
    obtain ⟨s2, hs2⟩ : ∃ n : Nat, n = vadd 128 (b / 2) k := ⟨_, rfl⟩
    have A1 : Hid (∀ W : World, Calls Try.prog 23 #[.agg #[.int .u64 (hi (a / 2)), .int .u64 (lo (a / 2))], .agg #[.int .u64 (hi k), .int .u64 (lo k)], .int .i64 128] W (RetV s1 W)) := Lib.hid (fun W => by rw [hs1]; exact add_val 128 (a / 2) k W)
    have A2 : Hid (∀ W : World, Calls Try.prog 23 #[.agg #[.int .u64 (hi (b / 2)), .int .u64 (lo (b / 2))], .agg #[.int .u64 (hi k), .int .u64 (lo k)], .int .i64 128] W (RetV s2 W)) := Lib.hid (fun W => by rw [hs2]; exact add_val 128 (b / 2) k W)
    have L1 : Hid (s1 < 2 ^ 128) := Lib.hid (by rw [hs1]; exact vadd_lt 128 (a / 2) k)
    have L2 : Hid (s2 < 2 ^ 128) := Lib.hid (by rw [hs2]; exact vadd_lt 128 (b / 2) k)
    have e3 : cmp s1 s2 = cmp (a / 2) (b / 2) := by rw [hs1, hs2]; exact cmp_add _ _ _ HP2.out HQ2.out HK.out
    have P1 : Hid (a / 2 < 2 ^ 128) := Lib.hid (by have := HP2.out; omega)
    have P2 : Hid (b / 2 < 2 ^ 128) := Lib.hid (by have := HQ2.out; omega)
    clear hs1 hs2 hx2 lx2 ly2 lx ly hbl
    generalize a / 2 = p at *
    generalize b / 2 = q at *
    go_region_held3 (fun w' => Below W5.heap.size W5 w' ∧ w'.cell? ⟨x, 0, none⟩ = some (.int .u64 (hi p)) ∧ w'.cell? ⟨x, 1, none⟩ = some (.int .u64 (lo p)) ∧
        w'.cell? ⟨y, 0, none⟩ = some (.int .u64 (hi q)) ∧ w'.cell? ⟨y, 1, none⟩ = some (.int .u64 (lo q)) ∧ w'.cell? ⟨z, 0, none⟩ = some (.int .u64 (hi k)) ∧ w'.cell? ⟨z, 1, none⟩ = some (.int .u64 (lo k)))
      (first
        | exact keepXYZ lx5 ly5 lz5 x0 x1 y0 y1 z0 z1 (Below.drew (Below.refl _ _))
        | exact keepXYZ lx5 ly5 lz5 x0 x1 y0 y1 z0 z1 (belowCall (by assumption) (by assumption)))
      (first
        | (go_at_call 23; ((with_reducible refine (A1.out _).mono ?_); rintro e w' ⟨rfl, hx⟩))
        | (go_at_call 23; ((with_reducible refine (A2.out _).mono ?_); rintro e w' ⟨rfl, hx⟩))
        | (go_at_call 37; refine (compare_any _ _ (by first | exact L1.out | exact P1.out) (by first | exact L2.out | exact P2.out) _).mono ?_; rintro e w' ⟨rfl, hx⟩)
        | (go_at_call 22; refine (begun_any _).mono ?_; rintro e w' ⟨rfl, hx⟩))
    all_goals go_wp2
    all_goals go_ret
    all_goals exact ⟨rfl, hB5.trans ((And.left (by assumption : Below W5.heap.size W5 _ ∧ _)).mono hB5.size)⟩
end Go.Proofs.Ythpiohhgfofmeaa
