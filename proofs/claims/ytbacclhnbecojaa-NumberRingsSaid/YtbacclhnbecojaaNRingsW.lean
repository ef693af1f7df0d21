/- NumberRings, its walk. -/
import Derived.Test.YtbacclhnbecojaaNOrdersW
namespace Go.Proofs.Ytbacclhnbecojaa
open Go.RowKit

/-- three numbers in boxes -/
structure RingW (w : World) (X Y Z : Nat) (a b c : Int) (w' : World) : Prop where
  below : Below w.heap.size w w'
  lx : X < w'.heap.size
  ly : Y < w'.heap.size
  lz : Z < w'.heap.size
  ra : RowAt w' X 6 (wV a)
  rb : RowAt w' Y 6 (wV b)
  rc : RowAt w' Z 6 (wV c)
theorem RingW.call {w w1 w2 : World} {X Y Z : Nat} {a b c : Int} (h : RingW w X Y Z a b c w1) (hb : Below w1.heap.size w1 w2) : RingW w X Y Z a b c w2 :=
  ⟨h.below.trans (hb.mono h.below.size), Nat.lt_of_lt_of_le h.lx hb.size, Nat.lt_of_lt_of_le h.ly hb.size, Nat.lt_of_lt_of_le h.lz hb.size, h.ra.below hb h.lx, h.rb.below hb h.ly, h.rc.below hb h.lz⟩
theorem RingW.drew {w w1 : World} {X Y Z : Nat} {a b c : Int} (h : RingW w X Y Z a b c w1) : RingW w X Y Z a b c w1.drew := ⟨h.below.drew, h.lx, h.ly, h.lz, h.ra.drew, h.rb.drew, h.rc.drew⟩
theorem RingW.all {w w' : World} {X Y Z : Nat} {a b c : Int} (h : RingW w X Y Z a b c w') : RingW w X Y Z a b c w' ∧ w'.cell? ⟨X, 0, none⟩ = some (.int .u32 (wd a 0)) ∧ w'.cell? ⟨X, 1, none⟩ = some (.int .u32 (wd a 1)) ∧ w'.cell? ⟨X, 2, none⟩ = some (.int .u32 (wd a 2)) ∧ w'.cell? ⟨X, 3, none⟩ = some (.int .u32 (wd a 3)) ∧ w'.cell? ⟨X, 4, none⟩ = some (.int .u32 (wd a 4)) ∧ w'.cell? ⟨X, 5, none⟩ = some (.int .u32 (wd a 5)) ∧ w'.cell? ⟨Y, 0, none⟩ = some (.int .u32 (wd b 0)) ∧ w'.cell? ⟨Y, 1, none⟩ = some (.int .u32 (wd b 1)) ∧ w'.cell? ⟨Y, 2, none⟩ = some (.int .u32 (wd b 2)) ∧ w'.cell? ⟨Y, 3, none⟩ = some (.int .u32 (wd b 3)) ∧ w'.cell? ⟨Y, 4, none⟩ = some (.int .u32 (wd b 4)) ∧ w'.cell? ⟨Y, 5, none⟩ = some (.int .u32 (wd b 5)) ∧ w'.cell? ⟨Z, 0, none⟩ = some (.int .u32 (wd c 0)) ∧ w'.cell? ⟨Z, 1, none⟩ = some (.int .u32 (wd c 1)) ∧ w'.cell? ⟨Z, 2, none⟩ = some (.int .u32 (wd c 2)) ∧ w'.cell? ⟨Z, 3, none⟩ = some (.int .u32 (wd c 3)) ∧ w'.cell? ⟨Z, 4, none⟩ = some (.int .u32 (wd c 4)) ∧ w'.cell? ⟨Z, 5, none⟩ = some (.int .u32 (wd c 5)) := ⟨h, h.ra.cell 0 (by decide), h.ra.cell 1 (by decide), h.ra.cell 2 (by decide), h.ra.cell 3 (by decide), h.ra.cell 4 (by decide), h.ra.cell 5 (by decide), h.rb.cell 0 (by decide), h.rb.cell 1 (by decide), h.rb.cell 2 (by decide), h.rb.cell 3 (by decide), h.rb.cell 4 (by decide), h.rb.cell 5 (by decide), h.rc.cell 0 (by decide), h.rc.cell 1 (by decide), h.rc.cell 2 (by decide), h.rc.cell 3 (by decide), h.rc.cell 4 (by decide), h.rc.cell 5 (by decide)⟩
set_option maxRecDepth 100000 in
set_option maxHeartbeats 8000000 in
theorem nrings_any (w : World) (A1 A2 A3 B1 : Option Addr) (n1 n2 n3 m1 c1 c2 c3 d1 : Nat) (f1 f2 f3 : Nat → Nat) (g1 : Nat → Bool) (hn1 : n1 ≤ 9223372036854775807) (hn2 : n2 ≤ 9223372036854775807) (hn3 : n3 ≤ 9223372036854775807) (hm1 : m1 ≤ 9223372036854775807) (hc1 : n1 ≤ c1) (hc2 : n2 ≤ c2) (hc3 : n3 ≤ c3)
    (hf1 : ∀ i, f1 i < 2 ^ 128) (hf2 : ∀ i, f2 i < 2 ^ 128) (hf3 : ∀ i, f3 i < 2 ^ 128) (hA1 : ValsB w A1 n1 f1) (hA2 : ValsB w A2 n2 f2) (hA3 : ValsB w A3 n3 f3) (hB1 : BoolsB w B1 m1 g1) :
    Calls Try.prog 7 #[.slice A1 n1 c1, .slice A2 n2 c2, .slice A3 n3 c3, .slice B1 m1 d1] w (RetX (.bool true) w) := by
  obtain ⟨a, ha⟩ : ∃ x, x = sm f1 g1 m1 (min n1 20) := ⟨_, rfl⟩
  obtain ⟨b, hb⟩ : ∃ x, x = sm f2 g1 m1 (min n2 20) := ⟨_, rfl⟩
  obtain ⟨c, hc⟩ : ∃ x, x = sm f3 g1 m1 (min n3 20) := ⟨_, rfl⟩
  have S1 : Hid (∀ W, Below w.heap.size w W → Calls Try.prog 8 #[.slice A1 n1 c1, .slice B1 m1 d1] W (RetSum a W)) := Lib.hid fun W h => by rw [ha]; exact ns_sum W A1 B1 n1 m1 c1 d1 f1 g1 hn1 hm1 hc1 hf1 (hA1.below h) (hB1.below h)
  have SA := Lib.hid (show Sb a by rw [ha]; exact sm_sb f1 g1 m1 hf1 n1)
  have S2 : Hid (∀ W, Below w.heap.size w W → Calls Try.prog 8 #[.slice A2 n2 c2, .slice B1 m1 d1] W (RetSum b W)) := Lib.hid fun W h => by rw [hb]; exact ns_sum W A2 B1 n2 m1 c2 d1 f2 g1 hn2 hm1 hc2 hf2 (hA2.below h) (hB1.below h)
  have SB := Lib.hid (show Sb b by rw [hb]; exact sm_sb f2 g1 m1 hf2 n2)
  have S3 : Hid (∀ W, Below w.heap.size w W → Calls Try.prog 8 #[.slice A3 n3 c3, .slice B1 m1 d1] W (RetSum c W)) := Lib.hid fun W h => by rw [hc]; exact ns_sum W A3 B1 n3 m1 c3 d1 f3 g1 hn3 hm1 hc3 hf3 (hA3.below h) (hB1.below h)
  have SC := Lib.hid (show Sb c by rw [hc]; exact sm_sb f3 g1 m1 hf3 n3)
  clear ha hb hc hA1 hA2 hA3 hB1 hf1 hf2 hf3 hn1 hn2 hn3 hm1 hc1 hc2 hc3
  go_enter Try.func7, Try.ntmps7
  go_wp2_with fail
  go_at_call 8
  refine (S1.out _ (Below.refl _ _)).mono ?_
  rintro e w1 ⟨s1, D1, k1, e1, rfl, hI1, hb1⟩
  have HB1 := Lib.hid hb1
  have hs1 := hb1.size
  clear hI1 hb1
  go_wp2_with fail
  go_at_call 8
  refine (S2.out _ ((HB1.out.alloc hs1 _).alloc (by simp; omega) _)).mono ?_
  rintro e w2 ⟨s2, D2, k2, e2, rfl, hI2, hb2⟩
  have hs2 := hb2.size
  have HB2 := Lib.hid (((HB1.out.alloc hs1 _).alloc (by simp; omega) _).trans (hb2.mono (by simp; omega)))
  have HBc := Lib.hid hb2
  clear hI2 hb2
  go_wp2_with fail
  go_at_call 8
  refine (S3.out _ ((HB2.out.alloc HB2.out.size _).alloc (by have := HB2.out.size; simp; omega) _)).mono ?_
  rintro e w3 ⟨s3, D3, k3, e3, rfl, hI3, hb3⟩
  have hs3 := hb3.size
  have HBd := Lib.hid hb3
  clear hI3 hb3
  go_upto_region 4 with fail
  have t2 : w1.heap.size + 2 ≤ w2.heap.size := by simpa using hs2
  have t3 : w2.heap.size + 2 ≤ w3.heap.size := by simpa using hs3
  clear hs2 hs3
  have r1 := ((RowAt.new w1 6 (wV a) 27).past (by simp) (.cells #[.bool s1, .slice D1 k1 e1] 30))
  have r2 := (((r1.below HBc.out (by simp; omega)).past (by omega) (.cells #[.int .u32 (wd b 0), .int .u32 (wd b 1), .int .u32 (wd b 2), .int .u32 (wd b 3), .int .u32 (wd b 4), .int .u32 (wd b 5)] 27)).past (by simp; omega) (.cells #[.bool s2, .slice D2 k2 e2] 30))
  have r3 := (((r2.below HBd.out (by simp; omega)).past (by omega) (.cells #[.int .u32 (wd c 0), .int .u32 (wd c 1), .int .u32 (wd c 2), .int .u32 (wd c 3), .int .u32 (wd c 4), .int .u32 (wd c 5)] 27)).past (by simp; omega) (.cells #[.bool s3, .slice D3 k3 e3] 30))
  have q1 := ((RowAt.new w2 6 (wV b) 27).past (by simp) (.cells #[.bool s2, .slice D2 k2 e2] 30))
  have q2 := (((q1.below HBd.out (by simp; omega)).past (by omega) (.cells #[.int .u32 (wd c 0), .int .u32 (wd c 1), .int .u32 (wd c 2), .int .u32 (wd c 3), .int .u32 (wd c 4), .int .u32 (wd c 5)] 27)).past (by simp; omega) (.cells #[.bool s3, .slice D3 k3 e3] 30))
  have u1 := ((RowAt.new w3 6 (wV c) 27).past (by simp) (.cells #[.bool s3, .slice D3 k3 e3] 30))
  have z1 := HB2.out.size
  have bb := (((((HB2.out.alloc z1 (.cells #[.int .u32 (wd b 0), .int .u32 (wd b 1), .int .u32 (wd b 2), .int .u32 (wd b 3), .int .u32 (wd b 4), .int .u32 (wd b 5)] 27)).alloc (by simp; omega) (.cells #[.bool s2, .slice D2 k2 e2] 30)).trans (HBd.out.mono (by simp; omega))).alloc (by omega) (.cells #[.int .u32 (wd c 0), .int .u32 (wd c 1), .int .u32 (wd c 2), .int .u32 (wd c 3), .int .u32 (wd c 4), .int .u32 (wd c 5)] 27)).alloc (by simp; omega) (.cells #[.bool s3, .slice D3 k3 e3] 30))
  have HW := Lib.hid (show RingW w w1.heap.size w2.heap.size w3.heap.size a b c _ from ⟨bb, by simp; omega, by simp; omega, by simp; omega, r3, q2, u1⟩)
  clear r1 r2 r3 q1 q2 u1 bb HB1 HB2 HBc HBd S1 S2 S3
  generalize w1.heap.size = X at HW ⊢
  generalize w2.heap.size = Y at HW ⊢
  generalize w3.heap.size = Z at HW ⊢
  generalize (w3.alloc (.cells #[.int .u32 (wd c 0), .int .u32 (wd c 1), .int .u32 (wd c 2), .int .u32 (wd c 3), .int .u32 (wd c 4), .int .u32 (wd c 5)] 27)).alloc (.cells #[.bool s3, .slice D3 k3 e3] 30) = w4 at HW ⊢
  obtain ⟨p, hp⟩ : ∃ x, x = a + b := ⟨_, rfl⟩
  obtain ⟨q, hq⟩ : ∃ x, x = b + c := ⟨_, rfl⟩
  obtain ⟨r, hr⟩ : ∃ x, x = a + b + c := ⟨_, rfl⟩
  obtain ⟨x, hx⟩ : ∃ x, x = a + c := ⟨_, rfl⟩
  obtain ⟨z, hz⟩ : ∃ x, x = a - b := ⟨_, rfl⟩
  obtain ⟨k, hk⟩ : ∃ x, x = sgn a b := ⟨_, rfl⟩
  have K1 : Hid (∀ W, Calls Try.prog 15 #[.agg #[.int .u32 (wd a 0), .int .u32 (wd a 1), .int .u32 (wd a 2), .int .u32 (wd a 3), .int .u32 (wd a 4), .int .u32 (wd a 5)], .agg #[.int .u32 (wd b 0), .int .u32 (wd b 1), .int .u32 (wd b 2), .int .u32 (wd b 3), .int .u32 (wd b 4), .int .u32 (wd b 5)]] W (RetN p W)) := Lib.hid fun W => by rw [hp]; exact nn_addL a b W
  have K2 : Hid (∀ W, Calls Try.prog 15 #[.agg #[.int .u32 (wd b 0), .int .u32 (wd b 1), .int .u32 (wd b 2), .int .u32 (wd b 3), .int .u32 (wd b 4), .int .u32 (wd b 5)], .agg #[.int .u32 (wd a 0), .int .u32 (wd a 1), .int .u32 (wd a 2), .int .u32 (wd a 3), .int .u32 (wd a 4), .int .u32 (wd a 5)]] W (RetN p W)) := Lib.hid fun W => by rw [hp, Int.add_comm]; exact nn_addL b a W
  have K3 : Hid (∀ W, Calls Try.prog 15 #[.agg #[.int .u32 (wd p 0), .int .u32 (wd p 1), .int .u32 (wd p 2), .int .u32 (wd p 3), .int .u32 (wd p 4), .int .u32 (wd p 5)], .agg #[.int .u32 (wd c 0), .int .u32 (wd c 1), .int .u32 (wd c 2), .int .u32 (wd c 3), .int .u32 (wd c 4), .int .u32 (wd c 5)]] W (RetN r W)) := Lib.hid fun W => by rw [hr, ← hp]; exact nn_addL p c W
  have K4 : Hid (∀ W, Calls Try.prog 15 #[.agg #[.int .u32 (wd b 0), .int .u32 (wd b 1), .int .u32 (wd b 2), .int .u32 (wd b 3), .int .u32 (wd b 4), .int .u32 (wd b 5)], .agg #[.int .u32 (wd c 0), .int .u32 (wd c 1), .int .u32 (wd c 2), .int .u32 (wd c 3), .int .u32 (wd c 4), .int .u32 (wd c 5)]] W (RetN q W)) := Lib.hid fun W => by rw [hq]; exact nn_addL b c W
  have K5 : Hid (∀ W, Calls Try.prog 15 #[.agg #[.int .u32 (wd a 0), .int .u32 (wd a 1), .int .u32 (wd a 2), .int .u32 (wd a 3), .int .u32 (wd a 4), .int .u32 (wd a 5)], .agg #[.int .u32 (wd q 0), .int .u32 (wd q 1), .int .u32 (wd q 2), .int .u32 (wd q 3), .int .u32 (wd q 4), .int .u32 (wd q 5)]] W (RetN r W)) := Lib.hid fun W => by rw [hr, Int.add_assoc, ← hq]; exact nn_addL a q W
  have K6 : Hid (∀ W, Calls Try.prog 15 #[.agg #[.int .u32 (wd a 0), .int .u32 (wd a 1), .int .u32 (wd a 2), .int .u32 (wd a 3), .int .u32 (wd a 4), .int .u32 (wd a 5)], .agg #[.int .u32 (wd c 0), .int .u32 (wd c 1), .int .u32 (wd c 2), .int .u32 (wd c 3), .int .u32 (wd c 4), .int .u32 (wd c 5)]] W (RetN x W)) := Lib.hid fun W => by rw [hx]; exact nn_addL a c W
  have K7 : Hid (∀ W, Calls Try.prog 19 #[.agg #[.int .u32 (wd x 0), .int .u32 (wd x 1), .int .u32 (wd x 2), .int .u32 (wd x 3), .int .u32 (wd x 4), .int .u32 (wd x 5)], .agg #[.int .u32 (wd q 0), .int .u32 (wd q 1), .int .u32 (wd q 2), .int .u32 (wd q 3), .int .u32 (wd q 4), .int .u32 (wd q 5)]] W (RetX (.int .i64 k) W)) := Lib.hid fun W => by rw [hk, ← sgn_add a b c, ← hx, ← hq]; exact nn_cmp x q (by rw [hx]; exact SA.out.rg_add SC.out) (by rw [hq]; exact SB.out.rg_add SC.out) W
  have K8 : Hid (∀ W, Calls Try.prog 19 #[.agg #[.int .u32 (wd a 0), .int .u32 (wd a 1), .int .u32 (wd a 2), .int .u32 (wd a 3), .int .u32 (wd a 4), .int .u32 (wd a 5)], .agg #[.int .u32 (wd b 0), .int .u32 (wd b 1), .int .u32 (wd b 2), .int .u32 (wd b 3), .int .u32 (wd b 4), .int .u32 (wd b 5)]] W (RetX (.int .i64 k) W)) := Lib.hid fun W => by rw [hk]; exact nn_cmp a b SA.out.rg SB.out.rg W
  have K9 : Hid (∀ W, Calls Try.prog 20 #[.agg #[.int .u32 (wd a 0), .int .u32 (wd a 1), .int .u32 (wd a 2), .int .u32 (wd a 3), .int .u32 (wd a 4), .int .u32 (wd a 5)], .agg #[.int .u32 (wd b 0), .int .u32 (wd b 1), .int .u32 (wd b 2), .int .u32 (wd b 3), .int .u32 (wd b 4), .int .u32 (wd b 5)]] W (RetN z W)) := Lib.hid fun W => by rw [hz]; exact nn_subL a b W
  have K10 : Hid (∀ W, Calls Try.prog 13 #[.int .i64 0] W (RetN 0 W)) := Lib.hid fun W => nn_of 0 (by decide) (by decide) W
  have K11 : Hid (∀ W, Calls Try.prog 19 #[.agg #[.int .u32 (wd z 0), .int .u32 (wd z 1), .int .u32 (wd z 2), .int .u32 (wd z 3), .int .u32 (wd z 4), .int .u32 (wd z 5)], .agg #[.int .u32 (wd 0 0), .int .u32 (wd 0 1), .int .u32 (wd 0 2), .int .u32 (wd 0 3), .int .u32 (wd 0 4), .int .u32 (wd 0 5)]] W (RetX (.int .i64 k) W)) := Lib.hid fun W => by rw [hk, ← sgn_sub a b, ← hz]; exact nn_cmp z 0 (by rw [hz]; exact SA.out.rg_sub SB.out) (by unfold Rg; omega) W
  have E1 := eqi_six p p (by rw [hp]; exact SA.out.rg_add SB.out) (by rw [hp]; exact SA.out.rg_add SB.out) true (by simp)
  have E2 := eqi_six r r (by rw [hr]; exact SA.out.rg_add3 SB.out SC.out) (by rw [hr]; exact SA.out.rg_add3 SB.out SC.out) true (by simp)
  have hg : Try.prog.eqGuardType Try.prog.depth 27 = false := by kernel_rfl
  clear hp hq hr hx hz hk
  go_region_held3 (fun w' => RingW w X Y Z a b c w' ∧ w'.cell? ⟨X, 0, none⟩ = some (.int .u32 (wd a 0)) ∧ w'.cell? ⟨X, 1, none⟩ = some (.int .u32 (wd a 1)) ∧ w'.cell? ⟨X, 2, none⟩ = some (.int .u32 (wd a 2)) ∧ w'.cell? ⟨X, 3, none⟩ = some (.int .u32 (wd a 3)) ∧ w'.cell? ⟨X, 4, none⟩ = some (.int .u32 (wd a 4)) ∧ w'.cell? ⟨X, 5, none⟩ = some (.int .u32 (wd a 5)) ∧ w'.cell? ⟨Y, 0, none⟩ = some (.int .u32 (wd b 0)) ∧ w'.cell? ⟨Y, 1, none⟩ = some (.int .u32 (wd b 1)) ∧ w'.cell? ⟨Y, 2, none⟩ = some (.int .u32 (wd b 2)) ∧ w'.cell? ⟨Y, 3, none⟩ = some (.int .u32 (wd b 3)) ∧ w'.cell? ⟨Y, 4, none⟩ = some (.int .u32 (wd b 4)) ∧ w'.cell? ⟨Y, 5, none⟩ = some (.int .u32 (wd b 5)) ∧ w'.cell? ⟨Z, 0, none⟩ = some (.int .u32 (wd c 0)) ∧ w'.cell? ⟨Z, 1, none⟩ = some (.int .u32 (wd c 1)) ∧ w'.cell? ⟨Z, 2, none⟩ = some (.int .u32 (wd c 2)) ∧ w'.cell? ⟨Z, 3, none⟩ = some (.int .u32 (wd c 3)) ∧ w'.cell? ⟨Z, 4, none⟩ = some (.int .u32 (wd c 4)) ∧ w'.cell? ⟨Z, 5, none⟩ = some (.int .u32 (wd c 5)))
    (first
      | exact (RingW.drew HW.out).all
      | exact (RingW.call (And.left (by assumption)) (by assumption)).all)
    (first
      | (go_at_call 15; (with_reducible refine (K1.out _).mono ?_); rintro e v1 ⟨rfl, hv1⟩)
      | (go_at_call 15; (with_reducible refine (K2.out _).mono ?_); rintro e v2 ⟨rfl, hv2⟩)
      | (go_at_call 15; (with_reducible refine (K3.out _).mono ?_); rintro e v3 ⟨rfl, hv3⟩)
      | (go_at_call 15; (with_reducible refine (K4.out _).mono ?_); rintro e v4 ⟨rfl, hv4⟩)
      | (go_at_call 15; (with_reducible refine (K5.out _).mono ?_); rintro e v5 ⟨rfl, hv5⟩)
      | (go_at_call 15; (with_reducible refine (K6.out _).mono ?_); rintro e v6 ⟨rfl, hv6⟩)
      | (go_at_call 19; (with_reducible refine (K7.out _).mono ?_); rintro e v7 ⟨rfl, hv7⟩)
      | (go_at_call 19; (with_reducible refine (K8.out _).mono ?_); rintro e v8 ⟨rfl, hv8⟩)
      | (go_at_call 19; (with_reducible refine (K11.out _).mono ?_); rintro e v11 ⟨rfl, hv11⟩)
      | (go_at_call 20; (with_reducible refine (K9.out _).mono ?_); rintro e v9 ⟨rfl, hv9⟩)
      | (go_at_call 13; (with_reducible refine (K10.out _).mono ?_); rintro e v10 ⟨rfl, hv10⟩)
      | (go_at_call 17; refine (nb_begun _).mono ?_; rintro e v12 ⟨rfl, hv12⟩; have HF := Lib.hid ((RingW.call (And.left (by assumption)) hv12).below)))
  all_goals go_wp2
  all_goals go_ret
  all_goals exact ⟨by first | rfl | simp, HF.out⟩
end Go.Proofs.Ytbacclhnbecojaa
