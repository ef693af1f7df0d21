/- NumberOrders, its walk. -/
import Derived.Test.YtbacclhnbecojaaNLawP
import Derived.Test.YtbacclhnbecojaaNOpen
namespace Go.Proofs.Ytbacclhnbecojaa
open Go.RowKit

/-- two numbers in boxes -/
structure OrdW (w : World) (X Y : Nat) (a b : Int) (w' : World) : Prop where
  below : Below w.heap.size w w'
  lx : X < w'.heap.size
  ly : Y < w'.heap.size
  ra : RowAt w' X 6 (wV a)
  rb : RowAt w' Y 6 (wV b)
theorem OrdW.call {w w1 w2 : World} {X Y : Nat} {a b : Int} (h : OrdW w X Y a b w1) (hb : Below w1.heap.size w1 w2) : OrdW w X Y a b w2 :=
  ⟨h.below.trans (hb.mono h.below.size), Nat.lt_of_lt_of_le h.lx hb.size, Nat.lt_of_lt_of_le h.ly hb.size, h.ra.below hb h.lx, h.rb.below hb h.ly⟩
theorem OrdW.drew {w w1 : World} {X Y : Nat} {a b : Int} (h : OrdW w X Y a b w1) : OrdW w X Y a b w1.drew := ⟨h.below.drew, h.lx, h.ly, h.ra.drew, h.rb.drew⟩
theorem OrdW.all {w w' : World} {X Y : Nat} {a b : Int} (h : OrdW w X Y a b w') : OrdW w X Y a b w' ∧ w'.cell? ⟨X, 0, none⟩ = some (.int .u32 (wd a 0)) ∧ w'.cell? ⟨X, 1, none⟩ = some (.int .u32 (wd a 1)) ∧ w'.cell? ⟨X, 2, none⟩ = some (.int .u32 (wd a 2)) ∧ w'.cell? ⟨X, 3, none⟩ = some (.int .u32 (wd a 3)) ∧ w'.cell? ⟨X, 4, none⟩ = some (.int .u32 (wd a 4)) ∧ w'.cell? ⟨X, 5, none⟩ = some (.int .u32 (wd a 5)) ∧ w'.cell? ⟨Y, 0, none⟩ = some (.int .u32 (wd b 0)) ∧ w'.cell? ⟨Y, 1, none⟩ = some (.int .u32 (wd b 1)) ∧ w'.cell? ⟨Y, 2, none⟩ = some (.int .u32 (wd b 2)) ∧ w'.cell? ⟨Y, 3, none⟩ = some (.int .u32 (wd b 3)) ∧ w'.cell? ⟨Y, 4, none⟩ = some (.int .u32 (wd b 4)) ∧ w'.cell? ⟨Y, 5, none⟩ = some (.int .u32 (wd b 5)) := ⟨h, h.ra.cell 0 (by decide), h.ra.cell 1 (by decide), h.ra.cell 2 (by decide), h.ra.cell 3 (by decide), h.ra.cell 4 (by decide), h.ra.cell 5 (by decide), h.rb.cell 0 (by decide), h.rb.cell 1 (by decide), h.rb.cell 2 (by decide), h.rb.cell 3 (by decide), h.rb.cell 4 (by decide), h.rb.cell 5 (by decide)⟩
theorem eqi_six (u v : Int) (hu : Rg u) (hv : Rg v) (e : Bool) (he : decide (u = v) = e) (w : World) : (Op.equalIn 9999 25 (.agg #[.int .u32 (wd u 0), .int .u32 (wd u 1), .int .u32 (wd u 2), .int .u32 (wd u 3), .int .u32 (wd u 4), .int .u32 (wd u 5)]) (.agg #[.int .u32 (wd v 0), .int .u32 (wd v 1), .int .u32 (wd v 2), .int .u32 (wd v 3), .int .u32 (wd v 4), .int .u32 (wd v 5)])).run Try.prog w = .ok e w := by
  rw [eqc_six 9997, six_eq u v hu hv, he]
theorem sgn_b (a b : Int) : -1 ≤ sgn a b ∧ sgn a b ≤ 1 := by unfold sgn; split <;> (try split) <;> omega
set_option maxRecDepth 100000 in
set_option maxHeartbeats 4000000 in
theorem norders_any (w : World) (A1 A2 B1 B2 : Option Addr) (n1 n2 m1 m2 c1 c2 d1 d2 : Nat) (f1 f2 : Nat → Nat) (g1 g2 : Nat → Bool) (hn1 : n1 ≤ 9223372036854775807) (hn2 : n2 ≤ 9223372036854775807) (hm1 : m1 ≤ 9223372036854775807) (hm2 : m2 ≤ 9223372036854775807) (hc1 : n1 ≤ c1) (hc2 : n2 ≤ c2)
    (hf1 : ∀ i, f1 i < 2 ^ 128) (hf2 : ∀ i, f2 i < 2 ^ 128) (hA1 : ValsB w A1 n1 f1) (hA2 : ValsB w A2 n2 f2) (hB1 : BoolsB w B1 m1 g1) (hB2 : BoolsB w B2 m2 g2) :
    Calls Try.prog 4 #[.slice A1 n1 c1, .slice A2 n2 c2, .slice B1 m1 d1, .slice B2 m2 d2] w (RetX (.bool true) w) := by
  obtain ⟨a, ha⟩ : ∃ a, a = sm f1 g1 m1 (min n1 20) := ⟨_, rfl⟩
  obtain ⟨b, hb⟩ : ∃ b, b = sm f2 g2 m2 (min n2 20) := ⟨_, rfl⟩
  have S1 : Hid (∀ W, Below w.heap.size w W → Calls Try.prog 8 #[.slice A1 n1 c1, .slice B1 m1 d1] W (RetSum a W)) := Lib.hid fun W h => by rw [ha]; exact ns_sum W A1 B1 n1 m1 c1 d1 f1 g1 hn1 hm1 hc1 hf1 (hA1.below h) (hB1.below h)
  have S2 : Hid (∀ W, Below w.heap.size w W → Calls Try.prog 8 #[.slice A2 n2 c2, .slice B2 m2 d2] W (RetSum b W)) := Lib.hid fun W h => by rw [hb]; exact ns_sum W A2 B2 n2 m2 c2 d2 f2 g2 hn2 hm2 hc2 hf2 (hA2.below h) (hB2.below h)
  have sa : Sb a := by rw [ha]; exact sm_sb f1 g1 m1 hf1 n1
  have sb : Sb b := by rw [hb]; exact sm_sb f2 g2 m2 hf2 n2
  have SA := Lib.hid sa
  have SB := Lib.hid sb
  clear ha hb hA1 hA2 hB1 hB2 hf1 hf2 hn1 hn2 hm1 hm2 hc1 hc2 sa sb
  go_enter Try.func4, Try.ntmps4
  go_wp2_with fail
  go_at_call 8
  refine (S1.out _ (Below.refl _ _)).mono ?_
  rintro e w1 ⟨s1, D1, k1, e1, rfl, hI1, hb1⟩
  have HI1 := Lib.hid hI1
  have HB1 := Lib.hid hb1
  have hs1 := hb1.size
  clear hI1 hb1
  go_wp2_with fail
  go_at_call 8
  refine (S2.out _ ((HB1.out.alloc hs1 _).alloc (by simp; omega) _)).mono ?_
  rintro e w2 ⟨s2, D2, k2, e2, rfl, hI2, hb2⟩
  have HI2 := Lib.hid hI2
  have hs2 := hb2.size
  obtain ⟨hc, hf, hz⟩ := after (w1.heap.size + 2) hb2 (by simp) (by simp)
  have HB2 := Lib.hid (((HB1.out.alloc hs1 _).alloc (by simp; omega) _).trans (hb2.mono (by simp; omega)))
  have HI1b := Lib.hid (((HI1.out.alloc _).alloc _).below hb2)
  have HBc := Lib.hid hb2
  clear hI2 hb2
  go_upto_region 4 with (go_at_call 18; refine (ri_order _ s1 s2 D1 D2 e1 e2 k1 k2 a b (SA.out.bd_sub SB.out) ((HI1b.out.alloc _).alloc _) ((HI2.out.alloc _).alloc _)).mono ?_; rintro e w3 ⟨rfl, hb3⟩; obtain ⟨hc3, hf3, hz3⟩ := after (w2.heap.size + 2) hb3 (by simp) (by simp))
  have hW : OrdW w w1.heap.size w2.heap.size a b w3 := by
    have r1 := ((RowAt.new w1 6 (wV a) 27).past (by simp) (.cells #[.bool s1, .slice D1 k1 e1] 30))
    have hsz : w1.heap.size + 2 ≤ w2.heap.size := by simpa using hs2
    have r2 := (((r1.below HBc.out (by simp; omega)).past (by omega) (.cells #[.int .u32 (wd b 0), .int .u32 (wd b 1), .int .u32 (wd b 2), .int .u32 (wd b 3), .int .u32 (wd b 4), .int .u32 (wd b 5)] 27)).past (by simp; omega) (.cells #[.bool s2, .slice D2 k2 e2] 30))
    have q2 := ((RowAt.new w2 6 (wV b) 27).past (by simp) (.cells #[.bool s2, .slice D2 k2 e2] 30))
    have s3 : w2.heap.size + 2 ≤ w3.heap.size := by have := hb3.size; simpa using this
    exact ⟨((HB2.out.alloc HB2.out.size _).alloc (by have := HB2.out.size; simp; omega) _).trans (hb3.mono (by have := HB2.out.size; simp; omega)), by omega, by omega, r2.below hb3 (by simp; omega), q2.below hb3 (by simp; omega)⟩
  have HW := Lib.hid hW
  clear hc hf hz hc3 hf3 hz3 hb3 hW HI1 HI2 HI1b HB1 HB2 HBc hs1 hs2 S1 S2
  generalize w1.heap.size = X at HW ⊢
  generalize w2.heap.size = Y at HW ⊢
  have hcb := sgn_b a b
  obtain ⟨c, hc⟩ : ∃ c, sgn a b = c := ⟨_, rfl⟩
  obtain ⟨eb, heb⟩ : ∃ e, decide (a = b) = e := ⟨_, rfl⟩
  have K1 : Hid (∀ W, Calls Try.prog 19 #[.agg #[.int .u32 (wd a 0), .int .u32 (wd a 1), .int .u32 (wd a 2), .int .u32 (wd a 3), .int .u32 (wd a 4), .int .u32 (wd a 5)], .agg #[.int .u32 (wd b 0), .int .u32 (wd b 1), .int .u32 (wd b 2), .int .u32 (wd b 3), .int .u32 (wd b 4), .int .u32 (wd b 5)]] W (RetX (.int .i64 c) W)) := Lib.hid fun W => by rw [← hc]; exact nn_cmp a b SA.out.rg SB.out.rg W
  have K2 : Hid (∀ W, Calls Try.prog 19 #[.agg #[.int .u32 (wd b 0), .int .u32 (wd b 1), .int .u32 (wd b 2), .int .u32 (wd b 3), .int .u32 (wd b 4), .int .u32 (wd b 5)], .agg #[.int .u32 (wd a 0), .int .u32 (wd a 1), .int .u32 (wd a 2), .int .u32 (wd a 3), .int .u32 (wd a 4), .int .u32 (wd a 5)]] W (RetX (.int .i64 (-c)) W)) := Lib.hid fun W => by rw [← hc, ← sgn_anti]; exact nn_cmp b a SB.out.rg SA.out.rg W
  have hce : (c == 0) = eb := by
    rw [← heb, ← hc]
    by_cases h : a = b
    · rw [decide_eq_true h, (sgn_zero a b).2 h]; rfl
    · rw [decide_eq_false h, beq_eq_false_iff_ne]; exact fun h2 => h ((sgn_zero a b).1 h2)
  have hEq := eqi_six a b SA.out.rg SB.out.rg eb heb
  have hg : Try.prog.eqGuardType Try.prog.depth 27 = false := by kernel_rfl
  rw [hc] at hcb ⊢
  clear hc heb
  obtain ⟨⟨a0, a1, a2, a3, a4, a5⟩, _⟩ := six_there HW.out.ra
  obtain ⟨⟨b0, b1, b2, b3, b4, b5⟩, _⟩ := six_there HW.out.rb
  go_wp2_with fail
  go_at_call 19
  refine (K1.out _).mono ?_
  rintro e w4 ⟨rfl, hb4⟩
  have HW4 := Lib.hid (HW.out.call hb4)
  clear hb4 a0 a1 a2 a3 a4 a5 b0 b1 b2 b3 b4 b5
  obtain ⟨⟨a0, a1, a2, a3, a4, a5⟩, _⟩ := six_there HW4.out.ra
  obtain ⟨⟨b0, b1, b2, b3, b4, b5⟩, _⟩ := six_there HW4.out.rb
  go_wp2_with fail
  go_at_call 19
  refine (K2.out _).mono ?_
  rintro e w5 ⟨rfl, hb5⟩
  have HW5 := Lib.hid (HW4.out.call hb5)
  clear hb5 a0 a1 a2 a3 a4 a5 b0 b1 b2 b3 b4 b5
  obtain ⟨⟨a0, a1, a2, a3, a4, a5⟩, _⟩ := six_there HW5.out.ra
  obtain ⟨⟨b0, b1, b2, b3, b4, b5⟩, _⟩ := six_there HW5.out.rb
  go_upto_region 6 with fail
  all_goals clear K1 K2 hcb hce hEq a0 a1 a2 a3 a4 a5 b0 b1 b2 b3 b4 b5
  all_goals have hEq2 := eqi_six a a SA.out.rg SA.out.rg true (by simp)
  all_goals have K3 : Hid (∀ W, Calls Try.prog 15 #[.agg #[.int .u32 (wd (a - b) 0), .int .u32 (wd (a - b) 1), .int .u32 (wd (a - b) 2), .int .u32 (wd (a - b) 3), .int .u32 (wd (a - b) 4), .int .u32 (wd (a - b) 5)], .agg #[.int .u32 (wd b 0), .int .u32 (wd b 1), .int .u32 (wd b 2), .int .u32 (wd b 3), .int .u32 (wd b 4), .int .u32 (wd b 5)]] W (RetN a W)) := Lib.hid fun W => by have h := nn_addL (a - b) b W; rw [Int.sub_add_cancel] at h; exact h
  all_goals have K4 : Hid (∀ W, Calls Try.prog 19 #[.agg #[.int .u32 (wd a 0), .int .u32 (wd a 1), .int .u32 (wd a 2), .int .u32 (wd a 3), .int .u32 (wd a 4), .int .u32 (wd a 5)], .agg #[.int .u32 (wd a 0), .int .u32 (wd a 1), .int .u32 (wd a 2), .int .u32 (wd a 3), .int .u32 (wd a 4), .int .u32 (wd a 5)]] W (RetX (.int .i64 0) W)) := Lib.hid fun W => nn_cmp_eq a SA.out.rg W
  all_goals go_region_held3 (fun w' => OrdW w X Y a b w' ∧ w'.cell? ⟨X, 0, none⟩ = some (.int .u32 (wd a 0)) ∧ w'.cell? ⟨X, 1, none⟩ = some (.int .u32 (wd a 1)) ∧ w'.cell? ⟨X, 2, none⟩ = some (.int .u32 (wd a 2)) ∧ w'.cell? ⟨X, 3, none⟩ = some (.int .u32 (wd a 3)) ∧ w'.cell? ⟨X, 4, none⟩ = some (.int .u32 (wd a 4)) ∧ w'.cell? ⟨X, 5, none⟩ = some (.int .u32 (wd a 5)) ∧ w'.cell? ⟨Y, 0, none⟩ = some (.int .u32 (wd b 0)) ∧ w'.cell? ⟨Y, 1, none⟩ = some (.int .u32 (wd b 1)) ∧ w'.cell? ⟨Y, 2, none⟩ = some (.int .u32 (wd b 2)) ∧ w'.cell? ⟨Y, 3, none⟩ = some (.int .u32 (wd b 3)) ∧ w'.cell? ⟨Y, 4, none⟩ = some (.int .u32 (wd b 4)) ∧ w'.cell? ⟨Y, 5, none⟩ = some (.int .u32 (wd b 5)))
    (first
      | exact (OrdW.drew HW5.out).all
      | exact (OrdW.call (And.left (by assumption)) (by assumption)).all)
    (first
      | (go_at_call 20; refine (nn_subL a b _).mono ?_; rintro e w6 ⟨rfl, hb6⟩)
      | (go_at_call 15; refine (K3.out _).mono ?_; rintro e w7 ⟨rfl, hb7⟩)
      | (go_at_call 19; refine (K4.out _).mono ?_; rintro e w8 ⟨rfl, hb8⟩)
      | (go_at_call 17; refine (nb_begun _).mono ?_; rintro e w9 ⟨rfl, hb9⟩; have HF := Lib.hid ((OrdW.call (And.left (by assumption)) hb9).below)))
  all_goals go_wp2
  all_goals go_ret
  all_goals exact ⟨by first | rfl | simp, HF.out⟩
end Go.Proofs.Ytbacclhnbecojaa
