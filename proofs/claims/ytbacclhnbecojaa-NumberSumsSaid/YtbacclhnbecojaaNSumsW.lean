/- NumberSums, its walk. -/
import Derived.Test.YtbacclhnbecojaaNOrdersW
namespace Go.Proofs.Ytbacclhnbecojaa
open Go.RowKit

theorem ri_ofI (n : Int) (h0 : -9223372036854775808 ≤ n) (h1 : n < 9223372036854775808) (w : World) : Calls Try.prog 14 #[.int .i64 n] w (RetF n w) := by
  by_cases h : 0 ≤ n
  · obtain ⟨N, rfl⟩ := Int.eq_ofNat_of_zero_le h
    exact ri_of_pos N (by omega) (by omega) w
  · obtain ⟨N, hN⟩ := Int.eq_ofNat_of_zero_le (show 0 ≤ -n by omega)
    obtain rfl : n = -(N : Int) := by omega
    exact ri_of_neg N (by omega) (by omega) w
theorem Sb.bd_add {a n : Int} (ha : Sb a) (h0 : -9223372036854775808 ≤ n) (h1 : n < 9223372036854775808) : Bd (a + n) := by
  unfold Sb at ha; unfold Bd
  have : (a + n).natAbs < 2 ^ 140 := by omega
  exact Nat.lt_trans this (by decide +kernel)
/-- a number and an Int in boxes -/
structure SumsW (w : World) (X Y : Nat) (a : Int) (s : Bool) (A : Option Addr) (n c : Nat) (w' : World) : Prop where
  below : Below w.heap.size w w'
  lx : X < w'.heap.size
  ra : RowAt w' X 6 (wV a)
  bx : BoxI w' Y s A n c a
theorem SumsW.call {w w1 w2 : World} {X Y : Nat} {a : Int} {s : Bool} {A : Option Addr} {n c : Nat} (h : SumsW w X Y a s A n c w1) (hb : Below w1.heap.size w1 w2) : SumsW w X Y a s A n c w2 :=
  ⟨h.below.trans (hb.mono h.below.size), Nat.lt_of_lt_of_le h.lx hb.size, h.ra.below hb h.lx, h.bx.call hb⟩
theorem SumsW.drew {w w1 : World} {X Y : Nat} {a : Int} {s : Bool} {A : Option Addr} {n c : Nat} (h : SumsW w X Y a s A n c w1) : SumsW w X Y a s A n c w1.drew := ⟨h.below.drew, h.lx, h.ra.drew, h.bx.drew⟩
theorem SumsW.all {w w' : World} {X Y : Nat} {a : Int} {s : Bool} {A : Option Addr} {n c : Nat} (h : SumsW w X Y a s A n c w') : SumsW w X Y a s A n c w' ∧ w'.cell? ⟨X, 0, none⟩ = some (.int .u32 (wd a 0)) ∧ w'.cell? ⟨X, 1, none⟩ = some (.int .u32 (wd a 1)) ∧ w'.cell? ⟨X, 2, none⟩ = some (.int .u32 (wd a 2)) ∧ w'.cell? ⟨X, 3, none⟩ = some (.int .u32 (wd a 3)) ∧ w'.cell? ⟨X, 4, none⟩ = some (.int .u32 (wd a 4)) ∧ w'.cell? ⟨X, 5, none⟩ = some (.int .u32 (wd a 5)) ∧ w'.cell? ⟨Y, 0, none⟩ = some (.bool s) ∧ w'.cell? ⟨Y, 1, none⟩ = some (.slice A n c) := ⟨h, h.ra.cell 0 (by decide), h.ra.cell 1 (by decide), h.ra.cell 2 (by decide), h.ra.cell 3 (by decide), h.ra.cell 4 (by decide), h.ra.cell 5 (by decide), h.bx.c0, h.bx.c1⟩
set_option maxRecDepth 100000 in
set_option maxHeartbeats 8000000 in
theorem nsums_any (w : World) (A1 B1 : Option Addr) (n1 m1 c1 d1 : Nat) (f1 : Nat → Nat) (g1 : Nat → Bool) (z : Int) (hn1 : n1 ≤ 9223372036854775807) (hm1 : m1 ≤ 9223372036854775807) (hc1 : n1 ≤ c1) (hz0 : -9223372036854775808 ≤ z) (hz1 : z < 9223372036854775808)
    (hf1 : ∀ i, f1 i < 2 ^ 128) (hA1 : ValsB w A1 n1 f1) (hB1 : BoolsB w B1 m1 g1) :
    Calls Try.prog 3 #[.slice A1 n1 c1, .slice B1 m1 d1, .int .i64 z] w (RetX (.bool true) w) := by
  obtain ⟨a, ha⟩ : ∃ x, x = sm f1 g1 m1 (min n1 20) := ⟨_, rfl⟩
  have S1 : Hid (∀ W, Below w.heap.size w W → Calls Try.prog 8 #[.slice A1 n1 c1, .slice B1 m1 d1] W (RetSum a W)) := Lib.hid fun W h => by rw [ha]; exact ns_sum W A1 B1 n1 m1 c1 d1 f1 g1 hn1 hm1 hc1 hf1 (hA1.below h) (hB1.below h)
  have SA := Lib.hid (show Sb a by rw [ha]; exact sm_sb f1 g1 m1 hf1 n1)
  have HZ := Lib.hid (show -9223372036854775808 ≤ z ∧ z < 9223372036854775808 from ⟨hz0, hz1⟩)
  clear ha hA1 hB1 hf1 hn1 hm1 hc1 hz0 hz1
  go_enter Try.func3, Try.ntmps3
  go_wp2_with fail
  go_at_call 8
  refine (S1.out _ (Below.refl _ _)).mono ?_
  rintro e w1 ⟨s, A, n, c, rfl, hI1, hb1⟩
  have HB1 := Lib.hid hb1
  have HI1 := Lib.hid hI1
  have hs1 := hb1.size
  clear hI1 hb1
  go_upto_region 2 with fail
  have r1 := ((RowAt.new w1 6 (wV a) 27).past (by simp) (.cells #[.bool s, .slice A n c] 30))
  have b1 := BoxI.new (HI1.out.alloc (.cells #[.int .u32 (wd a 0), .int .u32 (wd a 1), .int .u32 (wd a 2), .int .u32 (wd a 3), .int .u32 (wd a 4), .int .u32 (wd a 5)] 27))
  simp only [World.size_alloc] at b1
  have HW := Lib.hid (show SumsW w w1.heap.size (w1.heap.size + 1) a s A n c ((w1.alloc (.cells #[.int .u32 (wd a 0), .int .u32 (wd a 1), .int .u32 (wd a 2), .int .u32 (wd a 3), .int .u32 (wd a 4), .int .u32 (wd a 5)] 27)).alloc (.cells #[.bool s, .slice A n c] 30)) from ⟨(HB1.out.alloc hs1 _).alloc (by simp; omega) _, by simp; omega, r1, b1⟩)
  clear r1 b1 HB1 HI1 S1 hs1
  generalize w1.heap.size + 1 = Y at HW ⊢
  generalize w1.heap.size = X at HW ⊢
  generalize (w1.alloc (.cells #[.int .u32 (wd a 0), .int .u32 (wd a 1), .int .u32 (wd a 2), .int .u32 (wd a 3), .int .u32 (wd a 4), .int .u32 (wd a 5)] 27)).alloc (.cells #[.bool s, .slice A n c] 30) = w4 at HW ⊢
  obtain ⟨m, hm⟩ : ∃ x, x = -a := ⟨_, rfl⟩
  obtain ⟨q, hq⟩ : ∃ x, x = a + z := ⟨_, rfl⟩
  obtain ⟨T1, hT1⟩ : ∃ x, x = strN (tl a) := ⟨_, rfl⟩
  obtain ⟨T2, hT2⟩ : ∃ x, x = strN (tl m) := ⟨_, rfl⟩
  obtain ⟨T3, hT3⟩ : ∃ x, x = strN (tl z) := ⟨_, rfl⟩
  obtain ⟨T4, hT4⟩ : ∃ x, x = strN (tl q) := ⟨_, rfl⟩
  have B1 : -(10 ^ 57) < a ∧ a < 10 ^ 57 := SA.out.text
  have KT1 : Hid (∀ W, Calls Try.prog 9 #[.agg #[.int .u32 (wd a 0), .int .u32 (wd a 1), .int .u32 (wd a 2), .int .u32 (wd a 3), .int .u32 (wd a 4), .int .u32 (wd a 5)]] W (RetX (.string T1) W)) := Lib.hid fun W => by rw [hT1]; exact nn_text a B1.1 B1.2 W
  have KR1 : Hid (∀ W s A n c, IntS W s A n c a → Calls Try.prog 10 #[.agg #[.bool s, .slice A n c]] W (RetX (.string T1) W)) := Lib.hid fun W s A n c h => by rw [hT1]; exact ri_text W s A n c a h
  have B2 : -(10 ^ 57) < m ∧ m < 10 ^ 57 := by have := SA.out.text; omega
  have KT2 : Hid (∀ W, Calls Try.prog 9 #[.agg #[.int .u32 (wd m 0), .int .u32 (wd m 1), .int .u32 (wd m 2), .int .u32 (wd m 3), .int .u32 (wd m 4), .int .u32 (wd m 5)]] W (RetX (.string T2) W)) := Lib.hid fun W => by rw [hT2]; exact nn_text m B2.1 B2.2 W
  have KR2 : Hid (∀ W s A n c, IntS W s A n c m → Calls Try.prog 10 #[.agg #[.bool s, .slice A n c]] W (RetX (.string T2) W)) := Lib.hid fun W s A n c h => by rw [hT2]; exact ri_text W s A n c m h
  have B3 : -(10 ^ 57) < z ∧ z < 10 ^ 57 := by have := HZ.out; omega
  have KT3 : Hid (∀ W, Calls Try.prog 9 #[.agg #[.int .u32 (wd z 0), .int .u32 (wd z 1), .int .u32 (wd z 2), .int .u32 (wd z 3), .int .u32 (wd z 4), .int .u32 (wd z 5)]] W (RetX (.string T3) W)) := Lib.hid fun W => by rw [hT3]; exact nn_text z B3.1 B3.2 W
  have KR3 : Hid (∀ W s A n c, IntS W s A n c z → Calls Try.prog 10 #[.agg #[.bool s, .slice A n c]] W (RetX (.string T3) W)) := Lib.hid fun W s A n c h => by rw [hT3]; exact ri_text W s A n c z h
  have B4 : -(10 ^ 57) < q ∧ q < 10 ^ 57 := by have := SA.out; unfold Sb at this; have := HZ.out; omega
  have KT4 : Hid (∀ W, Calls Try.prog 9 #[.agg #[.int .u32 (wd q 0), .int .u32 (wd q 1), .int .u32 (wd q 2), .int .u32 (wd q 3), .int .u32 (wd q 4), .int .u32 (wd q 5)]] W (RetX (.string T4) W)) := Lib.hid fun W => by rw [hT4]; exact nn_text q B4.1 B4.2 W
  have KR4 : Hid (∀ W s A n c, IntS W s A n c q → Calls Try.prog 10 #[.agg #[.bool s, .slice A n c]] W (RetX (.string T4) W)) := Lib.hid fun W s A n c h => by rw [hT4]; exact ri_text W s A n c q h
  have KN : Hid (∀ W, Calls Try.prog 11 #[.agg #[.int .u32 (wd a 0), .int .u32 (wd a 1), .int .u32 (wd a 2), .int .u32 (wd a 3), .int .u32 (wd a 4), .int .u32 (wd a 5)]] W (RetN m W)) := Lib.hid fun W => by rw [hm]; exact nn_neg a W
  have KO : Hid (∀ W, Calls Try.prog 13 #[.int .i64 z] W (RetN z W)) := Lib.hid fun W => nn_of z HZ.out.1 HZ.out.2 W
  have KA : Hid (∀ W, Calls Try.prog 15 #[.agg #[.int .u32 (wd a 0), .int .u32 (wd a 1), .int .u32 (wd a 2), .int .u32 (wd a 3), .int .u32 (wd a 4), .int .u32 (wd a 5)], .agg #[.int .u32 (wd z 0), .int .u32 (wd z 1), .int .u32 (wd z 2), .int .u32 (wd z 3), .int .u32 (wd z 4), .int .u32 (wd z 5)]] W (RetN q W)) := Lib.hid fun W => by rw [hq]; exact nn_addL a z W
  have RN : Hid (∀ W s A n c, IntS W s A n c a → Calls Try.prog 12 #[.agg #[.bool s, .slice A n c]] W (RetF m W)) := Lib.hid fun W s A n c h => by rw [hm]; exact ri_neg W s A c n a h
  have RO : Hid (∀ W, Calls Try.prog 14 #[.int .i64 z] W (RetF z W)) := Lib.hid fun W => ri_ofI z HZ.out.1 HZ.out.2 W
  have RA : Hid (∀ W s A n c s' A' n' c', IntS W s A n c a → IntS W s' A' n' c' z → Calls Try.prog 16 #[.agg #[.bool s, .slice A n c], .agg #[.bool s', .slice A' n' c']] W (RetF q W)) := Lib.hid fun W s A n c s' A' n' c' h1 h2 => by rw [hq]; exact ri_addF W s s' A A' c c' n n' a z (SA.out.bd_add HZ.out.1 HZ.out.2) h1 h2
  have hI0 : IntS w4.drew s A n c a := HW.out.drew.bx.v
  clear hm hq hT1 hT2 hT3 hT4 B1 B2 B3 B4 SA HZ
  go_region_held3 (fun w' => SumsW w X Y a s A n c w' ∧ w'.cell? ⟨X, 0, none⟩ = some (.int .u32 (wd a 0)) ∧ w'.cell? ⟨X, 1, none⟩ = some (.int .u32 (wd a 1)) ∧ w'.cell? ⟨X, 2, none⟩ = some (.int .u32 (wd a 2)) ∧ w'.cell? ⟨X, 3, none⟩ = some (.int .u32 (wd a 3)) ∧ w'.cell? ⟨X, 4, none⟩ = some (.int .u32 (wd a 4)) ∧ w'.cell? ⟨X, 5, none⟩ = some (.int .u32 (wd a 5)) ∧ w'.cell? ⟨Y, 0, none⟩ = some (.bool s) ∧ w'.cell? ⟨Y, 1, none⟩ = some (.slice A n c))
    (first
      | exact (SumsW.drew HW.out).all
      | exact (SumsW.call (And.left (by assumption)) (by assumption)).all)
    (first
      | (go_at_call 9; (with_reducible refine (KT1.out _).mono ?_); rintro e v1 ⟨rfl, hv1⟩)
      | (go_at_call 9; (with_reducible refine (KT2.out _).mono ?_); rintro e v1 ⟨rfl, hv1⟩)
      | (go_at_call 9; (with_reducible refine (KT3.out _).mono ?_); rintro e v1 ⟨rfl, hv1⟩)
      | (go_at_call 9; (with_reducible refine (KT4.out _).mono ?_); rintro e v1 ⟨rfl, hv1⟩)
      | (go_at_call 10; refine (KR1.out _ _ _ _ _ ?_).mono ?_; (focus ((repeat (first | assumption | refine IntS.below ?_ (by assumption))); done)); rintro e v1 ⟨rfl, hv1⟩)
      | (go_at_call 10; refine (KR2.out _ _ _ _ _ ?_).mono ?_; (focus ((repeat (first | assumption | refine IntS.below ?_ (by assumption))); done)); rintro e v1 ⟨rfl, hv1⟩)
      | (go_at_call 10; refine (KR3.out _ _ _ _ _ ?_).mono ?_; (focus ((repeat (first | assumption | refine IntS.below ?_ (by assumption))); done)); rintro e v1 ⟨rfl, hv1⟩)
      | (go_at_call 10; refine (KR4.out _ _ _ _ _ ?_).mono ?_; (focus ((repeat (first | assumption | refine IntS.below ?_ (by assumption))); done)); rintro e v1 ⟨rfl, hv1⟩)
      | (go_at_call 11; refine (KN.out _).mono ?_; rintro e v1 ⟨rfl, hv1⟩)
      | (go_at_call 13; refine (KO.out _).mono ?_; rintro e v1 ⟨rfl, hv1⟩)
      | (go_at_call 15; refine (KA.out _).mono ?_; rintro e v1 ⟨rfl, hv1⟩)
      | (go_at_call 12; refine (RN.out _ _ _ _ _ ?_).mono ?_; (focus ((repeat (first | assumption | refine IntS.below ?_ (by assumption))); done)); rintro e v1 ⟨s2, A2, n2, c2, rfl, hJ, hv1⟩)
      | (go_at_call 14; refine (RO.out _).mono ?_; rintro e v1 ⟨s2, A2, n2, c2, rfl, hJ, hv1⟩)
      | (go_at_call 16; refine (RA.out _ _ _ _ _ _ _ _ _ ?_ ?_).mono ?_; (focus ((repeat (first | assumption | refine IntS.below ?_ (by assumption))); done)); (focus ((repeat (first | assumption | refine IntS.below ?_ (by assumption))); done)); rintro e v1 ⟨s2, A2, n2, c2, rfl, hJ, hv1⟩)
      | (go_at_call 17; refine (nb_begun _).mono ?_; rintro e v12 ⟨rfl, hv12⟩; have HF := Lib.hid ((SumsW.call (And.left (by assumption)) hv12).below)))
  all_goals go_wp2
  all_goals go_ret
  all_goals exact ⟨by first | rfl | simp, HF.out⟩
end Go.Proofs.Ytbacclhnbecojaa
