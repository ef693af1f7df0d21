/- matchguardref05: digit and Literal. -/
import Derived.Test.YtodmkmoglchoeaaGreatDoorJNRef
import Derived.Test.YtodmkmoglchoeaaGreatDoorNLit
namespace Go.Proofs.YtodmkmoglchoeaaGreatDoor
open Go.RowKit

set_option maxRecDepth 100000 in
set_option maxHeartbeats 1000000 in
theorem ri_digit (c : Nat) (hc : c < 256) (w : World) : Calls Tryz.prog 120 #[.int .u8 c] w fun e w' => e = .returned (.int .i64 (dgN c : Nat)) ∧ w = w' := by
  by_cases h1 : 48 ≤ c ∧ c ≤ 57
  · obtain ⟨d, hd⟩ : ∃ d : Nat, c = d + 48 := ⟨c - 48, by omega⟩
    have e : dgN c = d := by unfold dgN; rw [if_pos h1]; omega
    rw [e]
    have g1 : (48 : Int) ≤ (c : Int) := by omega
    have g2 : (c : Int) ≤ 57 := by omega
    have n1 : 48 ≤ c := h1.1
    have n2 : c ≤ 57 := h1.2
    have e1 : ((c : Int) - 48) % 256 = (d : Int) := by omega
    clear h1 e
    go_enter Tryz.func120, Tryz.ntmps120
    go_wp2
    go_ret
    exact ⟨rfl, rfl⟩
  · by_cases h2 : 97 ≤ c ∧ c ≤ 102
    · obtain ⟨d, hd⟩ : ∃ d : Nat, c = d + 97 := ⟨c - 97, by omega⟩
      have e : dgN c = d + 10 := by unfold dgN; rw [if_neg h1, if_pos h2]; omega
      rw [e]
      have g1 : (97 : Int) ≤ (c : Int) := by omega
      have g2 : (c : Int) ≤ 102 := by omega
      have g3 : ¬ (c : Int) ≤ 57 := by omega
      have g4 : (48 : Int) ≤ (c : Int) := by omega
      have n1 : 97 ≤ c := h2.1
      have n2 : c ≤ 102 := h2.2
      have n3 : ¬ c ≤ 57 := by omega
      have n4 : 48 ≤ c := by omega
      have e1 : ((c : Int) - 97) % 256 = (d : Int) := by omega
      have e2 : IntKind.i64.wrap ((d : Int) + 10) = (d : Int) + 10 := IntWalk.i64_in _ (by omega)
      clear h1 h2 e
      go_enter Tryz.func120, Tryz.ntmps120
      go_wp2
      go_ret
      exact ⟨by simp, rfl⟩
    · have e : dgN c = 99 := by unfold dgN; rw [if_neg h1, if_neg h2]
      rw [e]
      clear e
      by_cases a1 : 48 ≤ c
      · have a2 : ¬ c ≤ 57 := by omega
        have g1 : (48 : Int) ≤ (c : Int) := by omega
        have g2 : ¬ (c : Int) ≤ 57 := by omega
        by_cases b1 : 97 ≤ c
        · have b2 : ¬ c ≤ 102 := by omega
          have g3 : (97 : Int) ≤ (c : Int) := by omega
          have g4 : ¬ (c : Int) ≤ 102 := by omega
          clear h1 h2
          go_enter Tryz.func120, Tryz.ntmps120
          go_wp2
          go_ret
          exact ⟨rfl, rfl⟩
        · have g3 : ¬ (97 : Int) ≤ (c : Int) := by omega
          clear h1 h2
          go_enter Tryz.func120, Tryz.ntmps120
          go_wp2
          go_ret
          exact ⟨rfl, rfl⟩
      · have g1 : ¬ (48 : Int) ≤ (c : Int) := by omega
        have b1 : ¬ 97 ≤ c := by omega
        have g3 : ¬ (97 : Int) ≤ (c : Int) := by omega
        clear h1 h2
        go_enter Tryz.func120, Tryz.ntmps120
        go_wp2
        go_ret
        exact ⟨rfl, rfl⟩
theorem dgN_lt (c : Nat) : dgN c ≤ 99 := by unfold dgN; split <;> (try split) <;> omega
/-- a literal's Int and whether it is one -/
def RetFB (z : Int) (b : Bool) (w : World) (e : Ending) (w' : World) : Prop := ∃ s A n c, e = .returned (.tuple #[.agg #[.bool s, .slice A n c], .bool b]) ∧ IntS w' s A n c z ∧ Below w.heap.size w w'
/-- the state of Literal between its rounds -/
structure LitAt (w : World) (P : Nat) (a : Int) (w' : World) : Prop where
  res : ResAt w w' w.heap.size
  np : w.heap.size < P
  box : ∃ s A n c, BoxI w' P s A n c a
/-- .. within one -/
structure LitR (w : World) (P Q : Nat) (s : Bool) (A : Option Addr) (n c : Nat) (z : Int) (w' : World) : Prop where
  res : ResAt w w' w.heap.size
  np : w.heap.size < P
  pq : P < Q
  bq : BoxI w' Q s A n c z
theorem LitR.drew {w w1 : World} {P Q : Nat} {s : Bool} {A : Option Addr} {n c : Nat} {z : Int} (h : LitR w P Q s A n c z w1) : LitR w P Q s A n c z w1.drew := ⟨h.res.drew, h.np, h.pq, h.bq.drew⟩
theorem LitR.call {w w1 w2 : World} {P Q : Nat} {s : Bool} {A : Option Addr} {n c : Nat} {z : Int} (h : LitR w P Q s A n c z w1) (hb : Below w1.heap.size w1 w2) : LitR w P Q s A n c z w2 := ⟨h.res.call hb, h.np, h.pq, h.bq.call hb⟩
theorem BoxI.farS {w : World} {P Q : Nat} {s : Bool} {A : Option Addr} {n c : Nat} {z : Int} (h : BoxI w Q s A n c z) (hne : P ≠ Q) {x : Bool} (c0 : w.cell? ⟨P, 0, none⟩ = some (.bool x)) (y : Bool) (v : Value) : BoxI ((w.setCell ⟨P, 0, none⟩ (.bool y)).setCell ⟨P, 1, none⟩ v) Q s A n c z :=
  ⟨by rw [World.cell?_setCell_far _ _ _ _ hne, World.cell?_setCell_far _ _ _ _ hne]; exact h.c0, by rw [World.cell?_setCell_far _ _ _ _ hne, World.cell?_setCell_far _ _ _ _ hne]; exact h.c1, by rw [World.frozen?_setCell, World.frozen?_setCell]; exact h.f0, by rw [World.frozen?_setCell, World.frozen?_setCell]; exact h.f1, h.v.store c0 _ _⟩
theorem LitR.set {w w1 : World} {P Q : Nat} {s : Bool} {A : Option Addr} {n c : Nat} {z : Int} (h : LitR w P Q s A n c z w1) {x : Bool} (c0 : w1.cell? ⟨P, 0, none⟩ = some (.bool x)) (y : Bool) (v : Value) : LitR w P Q s A n c z ((w1.setCell ⟨P, 0, none⟩ (.bool y)).setCell ⟨P, 1, none⟩ v) :=
  ⟨h.res.set (by have := h.np; omega) (by have := h.np; omega) _ _, h.np, h.pq, h.bq.farS (by have := h.pq; omega) c0 _ _⟩
theorem LitR.all {w w' : World} {P Q : Nat} {s : Bool} {A : Option Addr} {n c : Nat} {z : Int} (h : LitR w P Q s A n c z w') : LitR w P Q s A n c z w' ∧ w'.cell? ⟨Q, 0, none⟩ = some (.bool s) ∧ w'.cell? ⟨Q, 1, none⟩ = some (.slice A n c) := ⟨h, h.bq.c0, h.bq.c1⟩

theorem toList_nil (t : ByteArray) : (t.toList == []) = !(decide (0 < t.size)) := by
  by_cases h : 0 < t.size
  · rw [decide_eq_true h, Bool.not_true, beq_eq_false_iff_ne]
    intro h2
    have : t.toList.length = t.size := by rw [ByteArray.toList_eq]; simp
    rw [h2] at this; simp only [List.length_nil] at this; omega
  · rw [decide_eq_false h, Bool.not_false, beq_iff_eq]
    have : t.toList.length = t.size := by rw [ByteArray.toList_eq]; simp
    exact List.eq_nil_of_length_eq_zero (by omega)

theorem x0_list : x0.toList = [48, 120] := by rw [ByteArray.toList_eq]; rfl
set_option maxRecDepth 100000 in
set_option maxHeartbeats 8000000 in
theorem ri_lit10 (t : ByteArray) (hs : t.size < 9223372036854775807) (hno : (decide (2 < t.size) && ((t.extract 0 2).toList == x0.toList)) = false) (w : World) :
    Calls Tryz.prog 90 #[.string t] w (RetFB (((pv 10 (bt t) t.size).getD 0 : Nat) : Int) ((pv 10 (bt t) t.size).isSome && decide (0 < t.size)) w) := by
  rw [x0_list] at hno
  have e2 : ((2 : Int) < (t.size : Int)) = (2 < t.size) := by rw [eq_iff_iff]; omega
  by_cases h2 : 2 < t.size
  · have hx : ((t.extract 0 2).toList == [48, 120]) = false := by
      rw [decide_eq_true h2, Bool.true_and] at hno; exact hno
    have h2I : (2 : Int) < (t.size : Int) := by omega
    clear hno e2
    go_enter Tryz.func90, Tryz.ntmps90
    go_wp2_with (go_at_call 119; refine (ri_of0 _).mono ?_; rintro e w1 ⟨s1, A1, n1, c1, rfl, hI1, hb1⟩)
    clear hx
    obtain ⟨P, hP⟩ : ∃ P, P = w1.heap.size := ⟨_, rfl⟩
    have hst : LitAt w w1.heap.size ((0 : Nat) : Int) (w1.alloc (.cells #[.bool s1, .slice A1 n1 c1] 197)) :=
      ⟨((ResAt.new (Below.refl w.heap.size w) false none 0 0).call hb1).call ((Below.refl _ _).alloc (by simp) _), by have := hb1.size; simp at this; omega, s1, A1, n1, c1, BoxI.new hI1⟩
    clear hb1 hI1 hP P
    generalize w1.heap.size = P at hst ⊢
    generalize w1.alloc (.cells #[.bool s1, .slice A1 n1 c1] 197) = W0 at hst ⊢
    go_loopw [6] (fun i w' => ∃ k a : Nat, k ≤ t.size ∧ i = .int .i64 k ∧ pv 10 (bt t) k = some a ∧ LitAt w P (a : Int) w') (fun i _ => t.size - (intOf i).toNat)
    case atStart => exact ⟨0, 0, by omega, rfl, rfl, hst⟩
    case round =>
      clear hst
      obtain ⟨k, a, hk, rfl, hpv, hL⟩ := hrel
      have HPV := Lib.hid hpv
      have HL := Lib.hid hL
      obtain ⟨s2, A2, n2, c2, hbx⟩ := hL.box
      have HX := Lib.hid hbx
      have hnp := hL.np
      clear hpv hL hbx
      by_cases hlk : k < t.size
      · have h1 : (k : Int) < (t.size : Int) := by omega
        obtain ⟨c, hc⟩ : ∃ c, bt t k = c := ⟨_, rfl⟩
        have hbyte : (t[k]'hlk).toNat = c := by rw [bt_at, hc]
        have hc2 : c < 256 := by rw [← hc]; exact bt_lt t k
        have HC := Lib.hid hc
        clear hc
        obtain ⟨d, hd⟩ : ∃ d, dgN c = d := ⟨_, rfl⟩
        have KD : Hid (∀ W, Calls Tryz.prog 120 #[.int .u8 (c : Int)] W fun e w' => e = .returned (.int .i64 (d : Int)) ∧ W = w') := Lib.hid fun W => by rw [← hd]; exact ri_digit c hc2 W
        have HD := Lib.hid hd
        have hd99 : d ≤ 99 := by rw [← hd]; exact dgN_lt c
        clear hd
        go_wp2_with fail
        go_at_call 120
        refine (KD.out _).mono ?_
        rintro e w1 ⟨rfl, rfl⟩
        by_cases hdb : 10 ≤ d
        · have hnone : pv 10 (bt t) t.size = none := pv_stop HPV.out hlk fun h => by
            have := h.1; rw [HC.out, HD.out] at this; omega
          have HN := Lib.hid hnone
          have hdbI : (10 : Int) ≤ (d : Int) := by omega
          clear hnone
          go_wp2_with fail
          go_at_call 119
          refine (ri_of0 _).mono ?_
          rintro e w3 ⟨s3, A3, n3, c3, rfl, hI3, hb3⟩
          have hr3 := HL.out.res.call hb3
          have HI3 := Lib.hid hI3
          have HR3 := Lib.hid hr3
          obtain ⟨r0, q0⟩ := hr3.c0
          obtain ⟨r1, r2, r3, q1⟩ := hr3.c1
          have f0 := hr3.f0
          have f1 := hr3.f1
          clear hI3 hr3 hb3 KD
          go_wp2
          refine bodyPost_ret (v := .tuple #[.agg #[.bool s3, .slice A3 n3 c3], .bool false]) (by simp [results, Tryz.results90, go_sem, q0, q1]) rfl ⟨s3, A3, n3, c3, by rw [HN.out]; rfl, by rw [HN.out]; exact HI3.out.store q0 _ _, store2 HR3.out.below (by omega) _ _⟩
        · have hdbI : ¬ (10 : Int) ≤ (d : Int) := by omega
          have HDB := Lib.hid (show d < 10 by omega)
          have HA := Lib.hid (pv_lt HPV.out)
          clear hdb
          go_wp2_with fail
          go_at_call 119
          refine (ri_of0 _).mono ?_
          rintro e w3 ⟨s3, A3, n3, c3, rfl, hI3, hb3⟩
          have hbx3 := HX.out.call hb3
          have hr3 := HL.out.res.call hb3
          have hBQ := BoxI.new hI3
          have al : Below w3.heap.size w3 (w3.alloc (.cells #[.bool s3, .slice A3 n3 c3] 197)) := (Below.refl _ _).alloc (by simp) _
          have hpq : P < w3.heap.size := hbx3.lt
          have HX4 := Lib.hid (hbx3.call al)
          have HR4 := Lib.hid (hr3.call al)
          have HQ4 := Lib.hid (show BoxI (w3.alloc (.cells #[.bool s3, .slice A3 n3 c3] 197)) w3.heap.size s3 A3 n3 c3 ((0 * a : Nat) : Int) by rw [Nat.zero_mul]; exact hBQ)
          clear hbx3 hr3 hBQ al hb3 hI3
          go_upto_region 12 with fail
          generalize w3.heap.size = Q at HQ4 hpq ⊢
          generalize w3.alloc (.cells #[.bool s3, .slice A3 n3 c3] 197) = W4 at HQ4 HX4 HR4 ⊢
          go_loopw [8] (fun j w' => ∃ m : Nat, m ≤ 10 ∧ j = .int .i64 m ∧ ResAt w w' w.heap.size ∧ BoxI w' P s2 A2 n2 c2 (a : Int) ∧ ∃ s A n c, BoxI w' Q s A n c ((m * a : Nat) : Int)) (fun j _ => 10 - (intOf j).toNat)
          case atStart => exact ⟨0, by omega, rfl, HR4.out, HX4.out, s3, A3, n3, c3, HQ4.out⟩
          case round =>
            clear HR4 HX4 HQ4
            obtain ⟨m, hm, rfl, hR5, hP5, s5, A5, n5, c5, hQ5⟩ := hrel
            have HR5 := Lib.hid hR5
            have HP5 := Lib.hid hP5
            have HQ5 := Lib.hid hQ5
            by_cases hmB : m < 10
            · have hmI : (m : Int) < 10 := by omega
              have HB6 : Hid (Bd (((m * a : Nat) : Int) + (a : Int))) := Lib.hid (by
                have : ((m * a : Nat) : Int) + (a : Int) = ((m * a + a : Nat) : Int) := by omega
                rw [this]; apply bd_small
                have h1 := HA.out
                have h2 : m * a ≤ 16 * a := Nat.mul_le_mul_right _ (by omega)
                omega)
              have b0 := hQ5.c0
              have b1 := hQ5.c1
              have a0 := hP5.c0
              have a1 := hP5.c1
              clear hR5 hP5 hQ5
              go_wp2_with fail
              go_at_call 121
              refine (ri_addF _ s5 s2 A5 A2 c5 c2 n5 n2 _ _ HB6.out HQ5.out.v HP5.out.v).mono ?_
              rintro e w6 ⟨s6, A6, n6, c6, rfl, hI6, hb6⟩
              have hQ6 := HQ5.out.call hb6
              have g0 := hQ6.c0
              have g1 := hQ6.c1
              have g2 := hQ6.f0
              have g3 := hQ6.f1
              have HQ6 := Lib.hid (hQ6.set hI6)
              have HP6 := Lib.hid ((HP5.out.call hb6).farS (P := Q) (by omega) hQ6.c0 s6 (.slice A6 n6 c6))
              have HR6 := Lib.hid ((HR5.out.call hb6).set (P := Q) (by omega) (by omega) (.bool s6) (.slice A6 n6 c6))
              clear hQ6 hI6 hb6
              go_wp2
              go_roundw
              case rel =>
                go_light
                exact ⟨m + 1, by omega, by simp, HR6.out, HP6.out, s6, A6, n6, c6, by rw [show (((m + 1) * a : Nat) : Int) = ((m * a : Nat) : Int) + (a : Int) by rw [Nat.succ_mul]; omega]; exact HQ6.out⟩
              case measure => simp [intOf]; omega
            · have hmI : ¬ (m : Int) < 10 := by omega
              obtain rfl : m = 10 := by omega
              clear hR5 hP5 hQ5
              obtain ⟨q, hq⟩ : ∃ q, q = a * 10 + d := ⟨_, rfl⟩
              have HB7 : Hid (Bd (((10 * a : Nat) : Int) + (d : Int))) := Lib.hid (by
                have : ((10 * a : Nat) : Int) + (d : Int) = ((10 * a + d : Nat) : Int) := by omega
                rw [this]; apply bd_small
                have h1 := HA.out
                omega)
              have HQE : Hid (((10 * a : Nat) : Int) + (d : Int) = (q : Int)) := Lib.hid (by rw [hq]; omega)
              have KO : Hid (∀ W, Calls Tryz.prog 119 #[.int .i64 (d : Int)] W (RetF (d : Int) W)) := Lib.hid fun W => ri_of_pos d (by omega) (by omega) W
              have HQQ := Lib.hid hq
              have HW : Hid (LitR w P Q s5 A5 n5 c5 ((10 * a : Nat) : Int) wr) := Lib.hid ⟨HR5.out, hnp, hpq, HQ5.out⟩
              clear hq
              go_upto_region 15 with fail
              have hP0 := HP5.out.drew
              have HP0 := Lib.hid hP0
              clear hP0
              go_region_held3 (fun w' => LitR w P Q s5 A5 n5 c5 ((10 * a : Nat) : Int) w' ∧ w'.cell? ⟨Q, 0, none⟩ = some (.bool s5) ∧ w'.cell? ⟨Q, 1, none⟩ = some (.slice A5 n5 c5))
                (first
                  | exact (LitR.drew HW.out).all
                  | exact (LitR.call (And.left (by assumption)) (by assumption)).all
                  | assumption
                  | exact (LitR.set (And.left (by assumption)) (by assumption) _ _).all)
                (first
                  | (go_at_call 120; refine (KD.out _).mono ?_; rintro e w7 ⟨rfl, rfl⟩)
                  | (go_at_call 119; refine (KO.out _).mono ?_; rintro e w8 ⟨s8, A8, n8, c8, rfl, hI8, hb8⟩; have HP8 := Lib.hid (HP0.out.call hb8); have HI8 := Lib.hid hI8)
                  | (go_at_call 121; refine (ri_addF _ s5 s8 A5 A8 c5 c8 n5 n8 _ _ HB7.out (BoxI.v (LitR.bq (And.left (by assumption)))) HI8.out).mono ?_; rintro e w9 ⟨s9, A9, n9, c9, rfl, hI9, hb9⟩; have hP9 := HP8.out.call hb9; have HP9 := Lib.hid hP9; have g0 := hP9.c0; have g1 := hP9.c1; have g2 := hP9.f0; have g3 := hP9.f1; have HI9 := Lib.hid hI9; have HR9 := Lib.hid (LitR.call (And.left (by assumption)) hb9)))
              have hX10 := HP9.out.set HI9.out
              have HR10 := Lib.hid ((HR9.out.res).set (P := P) (by omega) (by omega) (.bool s9) (.slice A9 n9 c9))
              have HX10 : Hid (BoxI ((w9.setCell ⟨P, 0, none⟩ (.bool s9)).setCell ⟨P, 1, none⟩ (.slice A9 n9 c9)) P s9 A9 n9 c9 (q : Int)) := Lib.hid (by rw [← HQE.out]; exact hX10)
              clear hX10
              generalize (w9.setCell ⟨P, 0, none⟩ (.bool s9)).setCell ⟨P, 1, none⟩ (.slice A9 n9 c9) = W10 at HX10 HR10 ⊢
              obtain ⟨v, hv⟩ : ∃ v, decide (0 ≤ (q : Int) ∧ (q : Int) < 340282366920938463463374607431768211456) = v := ⟨_, rfl⟩
              have KF : Hid (∀ W s A n c, IntS W s A n c (q : Int) → Calls Tryz.prog 122 #[.agg #[.bool s, .slice A n c]] W (RetX (.bool v) W)) := Lib.hid fun W s A n c h => by
                rw [← hv]; exact ri_fits W s A n c q (by
                  unfold Bd
                  have h1 := HA.out
                  have h2 := HDB.out
                  have h3 := HQQ.out
                  have : ((q : Int) - 340282366920938463463374607431768211456).natAbs < 2 ^ 140 := by omega
                  exact Nat.lt_trans this (by decide +kernel)) h
              have hv2 : v = decide (q < 340282366920938463463374607431768211456) := by
                rw [← hv, decide_eq_decide]; omega
              have HV := Lib.hid hv2
              have b0 := HX10.out.c0
              have b1 := HX10.out.c1
              clear hv hv2
              go_wp2_with fail
              go_at_call 122
              refine (KF.out _ _ _ _ _ HX10.out.v).mono ?_
              rintro e w11 ⟨rfl, hb11⟩
              have HX11 := Lib.hid (HX10.out.call hb11)
              have HR11 := Lib.hid (HR10.out.call hb11)
              clear hb11 b0 b1
              by_cases hqv : q < 340282366920938463463374607431768211456
              · have ev : v = true := by rw [HV.out, decide_eq_true hqv]
                subst ev
                have HQV := Lib.hid hqv
                clear hqv
                go_wp2
                go_roundw
                case rel =>
                  go_light
                  refine ⟨k + 1, q, by omega, by simp, ?_, HR11.out, hnp, s9, A9, n9, c9, HX11.out⟩
                  have h := pv_step HPV.out (by rw [HC.out, HD.out]; exact HDB.out) (by rw [HC.out, HD.out, ← HQQ.out]; exact HQV.out)
                  rw [HC.out, HD.out, ← HQQ.out] at h
                  exact h
                case measure => simp [intOf]; omega
              · have ev : v = false := by rw [HV.out, decide_eq_false hqv]
                subst ev
                have hnone : pv 10 (bt t) t.size = none := pv_stop HPV.out hlk fun h => hqv (by have := h.2; rw [HC.out, HD.out, ← HQQ.out] at this; exact this)
                have HN := Lib.hid hnone
                clear hqv hnone
                go_wp2_with fail
                go_at_call 119
                refine (ri_of0 _).mono ?_
                rintro e w12 ⟨s12, A12, n12, c12, rfl, hI12, hb12⟩
                have hr3 := HR11.out.call hb12
                have HI12 := Lib.hid hI12
                have HR12 := Lib.hid hr3
                obtain ⟨r0, q0⟩ := hr3.c0
                obtain ⟨r1, r2, r3, q1⟩ := hr3.c1
                have f0 := hr3.f0
                have f1 := hr3.f1
                clear hI12 hr3 hb12
                go_wp2
                refine bodyPost_ret (v := .tuple #[.agg #[.bool s12, .slice A12 n12 c12], .bool false]) (by simp [results, Tryz.results90, go_sem, q0, q1]) rfl ⟨s12, A12, n12, c12, by rw [HN.out]; rfl, by rw [HN.out]; exact HI12.out.store q0 _ _, store2 HR12.out.below (by omega) _ _⟩
      · have e : k = t.size := by omega
        have hfin : pv 10 (bt t) t.size = some a := by rw [← e]; exact HPV.out
        have HFIN := Lib.hid hfin
        have hlk2 : ¬ (k : Int) < (t.size : Int) := by omega
        obtain ⟨v, hv⟩ : ∃ v, decide (0 < t.size) = v := ⟨_, rfl⟩
        have hte : (t.toList == []) = !v := by rw [← hv]; exact toList_nil t
        have HV := Lib.hid hv
        have hr3 := HL.out.res
        obtain ⟨r0, q0⟩ := hr3.c0
        obtain ⟨r1, r2, r3, q1⟩ := hr3.c1
        have f0 := hr3.f0
        have f1 := hr3.f1
        have b0 := HX.out.c0
        have b1 := HX.out.c1
        clear hfin hr3 hv
        go_wp2
        refine bodyPost_ret (v := .tuple #[.agg #[.bool s2, .slice A2 n2 c2], .bool v]) (by simp [results, Tryz.results90, go_sem, q0, q1]) rfl ⟨s2, A2, n2, c2, by rw [HFIN.out, ← HV.out]; rfl, by rw [HFIN.out]; exact HX.out.v.store q0 _ _, store2 HL.out.res.below (by omega) _ _⟩
  · have h2I : ¬ (2 : Int) < (t.size : Int) := by omega
    clear hno e2
    go_enter Tryz.func90, Tryz.ntmps90
    go_wp2_with (go_at_call 119; refine (ri_of0 _).mono ?_; rintro e w1 ⟨s1, A1, n1, c1, rfl, hI1, hb1⟩)
    obtain ⟨P, hP⟩ : ∃ P, P = w1.heap.size := ⟨_, rfl⟩
    have hst : LitAt w w1.heap.size ((0 : Nat) : Int) (w1.alloc (.cells #[.bool s1, .slice A1 n1 c1] 197)) :=
      ⟨((ResAt.new (Below.refl w.heap.size w) false none 0 0).call hb1).call ((Below.refl _ _).alloc (by simp) _), by have := hb1.size; simp at this; omega, s1, A1, n1, c1, BoxI.new hI1⟩
    clear hb1 hI1 hP P
    generalize w1.heap.size = P at hst ⊢
    generalize w1.alloc (.cells #[.bool s1, .slice A1 n1 c1] 197) = W0 at hst ⊢
    go_loopw [6] (fun i w' => ∃ k a : Nat, k ≤ t.size ∧ i = .int .i64 k ∧ pv 10 (bt t) k = some a ∧ LitAt w P (a : Int) w') (fun i _ => t.size - (intOf i).toNat)
    case atStart => exact ⟨0, 0, by omega, rfl, rfl, hst⟩
    case round =>
      clear hst
      obtain ⟨k, a, hk, rfl, hpv, hL⟩ := hrel
      have HPV := Lib.hid hpv
      have HL := Lib.hid hL
      obtain ⟨s2, A2, n2, c2, hbx⟩ := hL.box
      have HX := Lib.hid hbx
      have hnp := hL.np
      clear hpv hL hbx
      by_cases hlk : k < t.size
      · have h1 : (k : Int) < (t.size : Int) := by omega
        obtain ⟨c, hc⟩ : ∃ c, bt t k = c := ⟨_, rfl⟩
        have hbyte : (t[k]'hlk).toNat = c := by rw [bt_at, hc]
        have hc2 : c < 256 := by rw [← hc]; exact bt_lt t k
        have HC := Lib.hid hc
        clear hc
        obtain ⟨d, hd⟩ : ∃ d, dgN c = d := ⟨_, rfl⟩
        have KD : Hid (∀ W, Calls Tryz.prog 120 #[.int .u8 (c : Int)] W fun e w' => e = .returned (.int .i64 (d : Int)) ∧ W = w') := Lib.hid fun W => by rw [← hd]; exact ri_digit c hc2 W
        have HD := Lib.hid hd
        have hd99 : d ≤ 99 := by rw [← hd]; exact dgN_lt c
        clear hd
        go_wp2_with fail
        go_at_call 120
        refine (KD.out _).mono ?_
        rintro e w1 ⟨rfl, rfl⟩
        by_cases hdb : 10 ≤ d
        · have hnone : pv 10 (bt t) t.size = none := pv_stop HPV.out hlk fun h => by
            have := h.1; rw [HC.out, HD.out] at this; omega
          have HN := Lib.hid hnone
          have hdbI : (10 : Int) ≤ (d : Int) := by omega
          clear hnone
          go_wp2_with fail
          go_at_call 119
          refine (ri_of0 _).mono ?_
          rintro e w3 ⟨s3, A3, n3, c3, rfl, hI3, hb3⟩
          have hr3 := HL.out.res.call hb3
          have HI3 := Lib.hid hI3
          have HR3 := Lib.hid hr3
          obtain ⟨r0, q0⟩ := hr3.c0
          obtain ⟨r1, r2, r3, q1⟩ := hr3.c1
          have f0 := hr3.f0
          have f1 := hr3.f1
          clear hI3 hr3 hb3 KD
          go_wp2
          refine bodyPost_ret (v := .tuple #[.agg #[.bool s3, .slice A3 n3 c3], .bool false]) (by simp [results, Tryz.results90, go_sem, q0, q1]) rfl ⟨s3, A3, n3, c3, by rw [HN.out]; rfl, by rw [HN.out]; exact HI3.out.store q0 _ _, store2 HR3.out.below (by omega) _ _⟩
        · have hdbI : ¬ (10 : Int) ≤ (d : Int) := by omega
          have HDB := Lib.hid (show d < 10 by omega)
          have HA := Lib.hid (pv_lt HPV.out)
          clear hdb
          go_wp2_with fail
          go_at_call 119
          refine (ri_of0 _).mono ?_
          rintro e w3 ⟨s3, A3, n3, c3, rfl, hI3, hb3⟩
          have hbx3 := HX.out.call hb3
          have hr3 := HL.out.res.call hb3
          have hBQ := BoxI.new hI3
          have al : Below w3.heap.size w3 (w3.alloc (.cells #[.bool s3, .slice A3 n3 c3] 197)) := (Below.refl _ _).alloc (by simp) _
          have hpq : P < w3.heap.size := hbx3.lt
          have HX4 := Lib.hid (hbx3.call al)
          have HR4 := Lib.hid (hr3.call al)
          have HQ4 := Lib.hid (show BoxI (w3.alloc (.cells #[.bool s3, .slice A3 n3 c3] 197)) w3.heap.size s3 A3 n3 c3 ((0 * a : Nat) : Int) by rw [Nat.zero_mul]; exact hBQ)
          clear hbx3 hr3 hBQ al hb3 hI3
          go_upto_region 12 with fail
          generalize w3.heap.size = Q at HQ4 hpq ⊢
          generalize w3.alloc (.cells #[.bool s3, .slice A3 n3 c3] 197) = W4 at HQ4 HX4 HR4 ⊢
          go_loopw [8] (fun j w' => ∃ m : Nat, m ≤ 10 ∧ j = .int .i64 m ∧ ResAt w w' w.heap.size ∧ BoxI w' P s2 A2 n2 c2 (a : Int) ∧ ∃ s A n c, BoxI w' Q s A n c ((m * a : Nat) : Int)) (fun j _ => 10 - (intOf j).toNat)
          case atStart => exact ⟨0, by omega, rfl, HR4.out, HX4.out, s3, A3, n3, c3, HQ4.out⟩
          case round =>
            clear HR4 HX4 HQ4
            obtain ⟨m, hm, rfl, hR5, hP5, s5, A5, n5, c5, hQ5⟩ := hrel
            have HR5 := Lib.hid hR5
            have HP5 := Lib.hid hP5
            have HQ5 := Lib.hid hQ5
            by_cases hmB : m < 10
            · have hmI : (m : Int) < 10 := by omega
              have HB6 : Hid (Bd (((m * a : Nat) : Int) + (a : Int))) := Lib.hid (by
                have : ((m * a : Nat) : Int) + (a : Int) = ((m * a + a : Nat) : Int) := by omega
                rw [this]; apply bd_small
                have h1 := HA.out
                have h2 : m * a ≤ 16 * a := Nat.mul_le_mul_right _ (by omega)
                omega)
              have b0 := hQ5.c0
              have b1 := hQ5.c1
              have a0 := hP5.c0
              have a1 := hP5.c1
              clear hR5 hP5 hQ5
              go_wp2_with fail
              go_at_call 121
              refine (ri_addF _ s5 s2 A5 A2 c5 c2 n5 n2 _ _ HB6.out HQ5.out.v HP5.out.v).mono ?_
              rintro e w6 ⟨s6, A6, n6, c6, rfl, hI6, hb6⟩
              have hQ6 := HQ5.out.call hb6
              have g0 := hQ6.c0
              have g1 := hQ6.c1
              have g2 := hQ6.f0
              have g3 := hQ6.f1
              have HQ6 := Lib.hid (hQ6.set hI6)
              have HP6 := Lib.hid ((HP5.out.call hb6).farS (P := Q) (by omega) hQ6.c0 s6 (.slice A6 n6 c6))
              have HR6 := Lib.hid ((HR5.out.call hb6).set (P := Q) (by omega) (by omega) (.bool s6) (.slice A6 n6 c6))
              clear hQ6 hI6 hb6
              go_wp2
              go_roundw
              case rel =>
                go_light
                exact ⟨m + 1, by omega, by simp, HR6.out, HP6.out, s6, A6, n6, c6, by rw [show (((m + 1) * a : Nat) : Int) = ((m * a : Nat) : Int) + (a : Int) by rw [Nat.succ_mul]; omega]; exact HQ6.out⟩
              case measure => simp [intOf]; omega
            · have hmI : ¬ (m : Int) < 10 := by omega
              obtain rfl : m = 10 := by omega
              clear hR5 hP5 hQ5
              obtain ⟨q, hq⟩ : ∃ q, q = a * 10 + d := ⟨_, rfl⟩
              have HB7 : Hid (Bd (((10 * a : Nat) : Int) + (d : Int))) := Lib.hid (by
                have : ((10 * a : Nat) : Int) + (d : Int) = ((10 * a + d : Nat) : Int) := by omega
                rw [this]; apply bd_small
                have h1 := HA.out
                omega)
              have HQE : Hid (((10 * a : Nat) : Int) + (d : Int) = (q : Int)) := Lib.hid (by rw [hq]; omega)
              have KO : Hid (∀ W, Calls Tryz.prog 119 #[.int .i64 (d : Int)] W (RetF (d : Int) W)) := Lib.hid fun W => ri_of_pos d (by omega) (by omega) W
              have HQQ := Lib.hid hq
              have HW : Hid (LitR w P Q s5 A5 n5 c5 ((10 * a : Nat) : Int) wr) := Lib.hid ⟨HR5.out, hnp, hpq, HQ5.out⟩
              clear hq
              go_upto_region 15 with fail
              have hP0 := HP5.out.drew
              have HP0 := Lib.hid hP0
              clear hP0
              go_region_held3 (fun w' => LitR w P Q s5 A5 n5 c5 ((10 * a : Nat) : Int) w' ∧ w'.cell? ⟨Q, 0, none⟩ = some (.bool s5) ∧ w'.cell? ⟨Q, 1, none⟩ = some (.slice A5 n5 c5))
                (first
                  | exact (LitR.drew HW.out).all
                  | exact (LitR.call (And.left (by assumption)) (by assumption)).all
                  | assumption
                  | exact (LitR.set (And.left (by assumption)) (by assumption) _ _).all)
                (first
                  | (go_at_call 120; refine (KD.out _).mono ?_; rintro e w7 ⟨rfl, rfl⟩)
                  | (go_at_call 119; refine (KO.out _).mono ?_; rintro e w8 ⟨s8, A8, n8, c8, rfl, hI8, hb8⟩; have HP8 := Lib.hid (HP0.out.call hb8); have HI8 := Lib.hid hI8)
                  | (go_at_call 121; refine (ri_addF _ s5 s8 A5 A8 c5 c8 n5 n8 _ _ HB7.out (BoxI.v (LitR.bq (And.left (by assumption)))) HI8.out).mono ?_; rintro e w9 ⟨s9, A9, n9, c9, rfl, hI9, hb9⟩; have hP9 := HP8.out.call hb9; have HP9 := Lib.hid hP9; have g0 := hP9.c0; have g1 := hP9.c1; have g2 := hP9.f0; have g3 := hP9.f1; have HI9 := Lib.hid hI9; have HR9 := Lib.hid (LitR.call (And.left (by assumption)) hb9)))
              have hX10 := HP9.out.set HI9.out
              have HR10 := Lib.hid ((HR9.out.res).set (P := P) (by omega) (by omega) (.bool s9) (.slice A9 n9 c9))
              have HX10 : Hid (BoxI ((w9.setCell ⟨P, 0, none⟩ (.bool s9)).setCell ⟨P, 1, none⟩ (.slice A9 n9 c9)) P s9 A9 n9 c9 (q : Int)) := Lib.hid (by rw [← HQE.out]; exact hX10)
              clear hX10
              generalize (w9.setCell ⟨P, 0, none⟩ (.bool s9)).setCell ⟨P, 1, none⟩ (.slice A9 n9 c9) = W10 at HX10 HR10 ⊢
              obtain ⟨v, hv⟩ : ∃ v, decide (0 ≤ (q : Int) ∧ (q : Int) < 340282366920938463463374607431768211456) = v := ⟨_, rfl⟩
              have KF : Hid (∀ W s A n c, IntS W s A n c (q : Int) → Calls Tryz.prog 122 #[.agg #[.bool s, .slice A n c]] W (RetX (.bool v) W)) := Lib.hid fun W s A n c h => by
                rw [← hv]; exact ri_fits W s A n c q (by
                  unfold Bd
                  have h1 := HA.out
                  have h2 := HDB.out
                  have h3 := HQQ.out
                  have : ((q : Int) - 340282366920938463463374607431768211456).natAbs < 2 ^ 140 := by omega
                  exact Nat.lt_trans this (by decide +kernel)) h
              have hv2 : v = decide (q < 340282366920938463463374607431768211456) := by
                rw [← hv, decide_eq_decide]; omega
              have HV := Lib.hid hv2
              have b0 := HX10.out.c0
              have b1 := HX10.out.c1
              clear hv hv2
              go_wp2_with fail
              go_at_call 122
              refine (KF.out _ _ _ _ _ HX10.out.v).mono ?_
              rintro e w11 ⟨rfl, hb11⟩
              have HX11 := Lib.hid (HX10.out.call hb11)
              have HR11 := Lib.hid (HR10.out.call hb11)
              clear hb11 b0 b1
              by_cases hqv : q < 340282366920938463463374607431768211456
              · have ev : v = true := by rw [HV.out, decide_eq_true hqv]
                subst ev
                have HQV := Lib.hid hqv
                clear hqv
                go_wp2
                go_roundw
                case rel =>
                  go_light
                  refine ⟨k + 1, q, by omega, by simp, ?_, HR11.out, hnp, s9, A9, n9, c9, HX11.out⟩
                  have h := pv_step HPV.out (by rw [HC.out, HD.out]; exact HDB.out) (by rw [HC.out, HD.out, ← HQQ.out]; exact HQV.out)
                  rw [HC.out, HD.out, ← HQQ.out] at h
                  exact h
                case measure => simp [intOf]; omega
              · have ev : v = false := by rw [HV.out, decide_eq_false hqv]
                subst ev
                have hnone : pv 10 (bt t) t.size = none := pv_stop HPV.out hlk fun h => hqv (by have := h.2; rw [HC.out, HD.out, ← HQQ.out] at this; exact this)
                have HN := Lib.hid hnone
                clear hqv hnone
                go_wp2_with fail
                go_at_call 119
                refine (ri_of0 _).mono ?_
                rintro e w12 ⟨s12, A12, n12, c12, rfl, hI12, hb12⟩
                have hr3 := HR11.out.call hb12
                have HI12 := Lib.hid hI12
                have HR12 := Lib.hid hr3
                obtain ⟨r0, q0⟩ := hr3.c0
                obtain ⟨r1, r2, r3, q1⟩ := hr3.c1
                have f0 := hr3.f0
                have f1 := hr3.f1
                clear hI12 hr3 hb12
                go_wp2
                refine bodyPost_ret (v := .tuple #[.agg #[.bool s12, .slice A12 n12 c12], .bool false]) (by simp [results, Tryz.results90, go_sem, q0, q1]) rfl ⟨s12, A12, n12, c12, by rw [HN.out]; rfl, by rw [HN.out]; exact HI12.out.store q0 _ _, store2 HR12.out.below (by omega) _ _⟩
      · have e : k = t.size := by omega
        have hfin : pv 10 (bt t) t.size = some a := by rw [← e]; exact HPV.out
        have HFIN := Lib.hid hfin
        have hlk2 : ¬ (k : Int) < (t.size : Int) := by omega
        obtain ⟨v, hv⟩ : ∃ v, decide (0 < t.size) = v := ⟨_, rfl⟩
        have hte : (t.toList == []) = !v := by rw [← hv]; exact toList_nil t
        have HV := Lib.hid hv
        have hr3 := HL.out.res
        obtain ⟨r0, q0⟩ := hr3.c0
        obtain ⟨r1, r2, r3, q1⟩ := hr3.c1
        have f0 := hr3.f0
        have f1 := hr3.f1
        have b0 := HX.out.c0
        have b1 := HX.out.c1
        clear hfin hr3 hv
        go_wp2
        refine bodyPost_ret (v := .tuple #[.agg #[.bool s2, .slice A2 n2 c2], .bool v]) (by simp [results, Tryz.results90, go_sem, q0, q1]) rfl ⟨s2, A2, n2, c2, by rw [HFIN.out, ← HV.out]; rfl, by rw [HFIN.out]; exact HX.out.v.store q0 _ _, store2 HL.out.res.below (by omega) _ _⟩
set_option maxRecDepth 100000 in
set_option maxHeartbeats 8000000 in
theorem ri_lit16 (s : ByteArray) (hs : s.size < 9223372036854775807) (h2 : 2 < s.size) (hx : ((s.extract 0 2).toList == x0.toList) = true) (w : World) :
    Calls Tryz.prog 90 #[.string s] w (RetFB (((pv 16 (bt (s.extract 2 s.size)) (s.extract 2 s.size).size).getD 0 : Nat) : Int) ((pv 16 (bt (s.extract 2 s.size)) (s.extract 2 s.size).size).isSome && decide (0 < (s.extract 2 s.size).size)) w) := by
  rw [x0_list] at hx
  have h2I : (2 : Int) < (s.size : Int) := by omega
  have h2J : (2 : Int) ≤ (s.size : Int) := by omega
  have hts : (s.extract 2 s.size).size < 9223372036854775807 := by rw [ByteArray.size_extract]; omega
  obtain ⟨t, ht⟩ : ∃ t, t = s.extract 2 s.size := ⟨_, rfl⟩
  rw [← ht] at hts ⊢
  go_enter Tryz.func90, Tryz.ntmps90
  go_wp2
  go_region
  go_wp2_with (go_at_call 119; refine (ri_of0 _).mono ?_; rintro e w1 ⟨s1, A1, n1, c1, rfl, hI1, hb1⟩)
  rw [← ht]
  clear hx h2I h2J h2 hs ht
  obtain ⟨P, hP⟩ : ∃ P, P = w1.heap.size := ⟨_, rfl⟩
  have hst : LitAt w w1.heap.size ((0 : Nat) : Int) (w1.alloc (.cells #[.bool s1, .slice A1 n1 c1] 197)) :=
    ⟨((ResAt.new (Below.refl w.heap.size w) false none 0 0).drew.call hb1).call ((Below.refl _ _).alloc (by simp) _), by have := hb1.size; simp at this; omega, s1, A1, n1, c1, BoxI.new hI1⟩
  clear hb1 hI1 hP P
  generalize w1.heap.size = P at hst ⊢
  generalize w1.alloc (.cells #[.bool s1, .slice A1 n1 c1] 197) = W0 at hst ⊢
  go_loopw [6] (fun i w' => ∃ k a : Nat, k ≤ t.size ∧ i = .int .i64 k ∧ pv 16 (bt t) k = some a ∧ LitAt w P (a : Int) w') (fun i _ => t.size - (intOf i).toNat)
  case atStart => exact ⟨0, 0, by omega, rfl, rfl, hst⟩
  case round =>
    clear hst
    obtain ⟨k, a, hk, rfl, hpv, hL⟩ := hrel
    have HPV := Lib.hid hpv
    have HL := Lib.hid hL
    obtain ⟨s2, A2, n2, c2, hbx⟩ := hL.box
    have HX := Lib.hid hbx
    have hnp := hL.np
    clear hpv hL hbx
    by_cases hlk : k < t.size
    · have h1 : (k : Int) < (t.size : Int) := by omega
      obtain ⟨c, hc⟩ : ∃ c, bt t k = c := ⟨_, rfl⟩
      have hbyte : (t[k]'hlk).toNat = c := by rw [bt_at, hc]
      have hc2 : c < 256 := by rw [← hc]; exact bt_lt t k
      have HC := Lib.hid hc
      clear hc
      obtain ⟨d, hd⟩ : ∃ d, dgN c = d := ⟨_, rfl⟩
      have KD : Hid (∀ W, Calls Tryz.prog 120 #[.int .u8 (c : Int)] W fun e w' => e = .returned (.int .i64 (d : Int)) ∧ W = w') := Lib.hid fun W => by rw [← hd]; exact ri_digit c hc2 W
      have HD := Lib.hid hd
      have hd99 : d ≤ 99 := by rw [← hd]; exact dgN_lt c
      clear hd
      go_wp2_with fail
      go_at_call 120
      refine (KD.out _).mono ?_
      rintro e w1 ⟨rfl, rfl⟩
      by_cases hdb : 16 ≤ d
      · have hnone : pv 16 (bt t) t.size = none := pv_stop HPV.out hlk fun h => by
          have := h.1; rw [HC.out, HD.out] at this; omega
        have HN := Lib.hid hnone
        have hdbI : (16 : Int) ≤ (d : Int) := by omega
        clear hnone
        go_wp2_with fail
        go_at_call 119
        refine (ri_of0 _).mono ?_
        rintro e w3 ⟨s3, A3, n3, c3, rfl, hI3, hb3⟩
        have hr3 := HL.out.res.call hb3
        have HI3 := Lib.hid hI3
        have HR3 := Lib.hid hr3
        obtain ⟨r0, q0⟩ := hr3.c0
        obtain ⟨r1, r2, r3, q1⟩ := hr3.c1
        have f0 := hr3.f0
        have f1 := hr3.f1
        clear hI3 hr3 hb3 KD
        go_wp2
        refine bodyPost_ret (v := .tuple #[.agg #[.bool s3, .slice A3 n3 c3], .bool false]) (by simp [results, Tryz.results90, go_sem, q0, q1]) rfl ⟨s3, A3, n3, c3, by rw [HN.out]; rfl, by rw [HN.out]; exact HI3.out.store q0 _ _, store2 HR3.out.below (by omega) _ _⟩
      · have hdbI : ¬ (16 : Int) ≤ (d : Int) := by omega
        have HDB := Lib.hid (show d < 16 by omega)
        have HA := Lib.hid (pv_lt HPV.out)
        clear hdb
        go_wp2_with fail
        go_at_call 119
        refine (ri_of0 _).mono ?_
        rintro e w3 ⟨s3, A3, n3, c3, rfl, hI3, hb3⟩
        have hbx3 := HX.out.call hb3
        have hr3 := HL.out.res.call hb3
        have hBQ := BoxI.new hI3
        have al : Below w3.heap.size w3 (w3.alloc (.cells #[.bool s3, .slice A3 n3 c3] 197)) := (Below.refl _ _).alloc (by simp) _
        have hpq : P < w3.heap.size := hbx3.lt
        have HX4 := Lib.hid (hbx3.call al)
        have HR4 := Lib.hid (hr3.call al)
        have HQ4 := Lib.hid (show BoxI (w3.alloc (.cells #[.bool s3, .slice A3 n3 c3] 197)) w3.heap.size s3 A3 n3 c3 ((0 * a : Nat) : Int) by rw [Nat.zero_mul]; exact hBQ)
        clear hbx3 hr3 hBQ al hb3 hI3
        go_upto_region 12 with fail
        generalize w3.heap.size = Q at HQ4 hpq ⊢
        generalize w3.alloc (.cells #[.bool s3, .slice A3 n3 c3] 197) = W4 at HQ4 HX4 HR4 ⊢
        go_loopw [8] (fun j w' => ∃ m : Nat, m ≤ 16 ∧ j = .int .i64 m ∧ ResAt w w' w.heap.size ∧ BoxI w' P s2 A2 n2 c2 (a : Int) ∧ ∃ s A n c, BoxI w' Q s A n c ((m * a : Nat) : Int)) (fun j _ => 16 - (intOf j).toNat)
        case atStart => exact ⟨0, by omega, rfl, HR4.out, HX4.out, s3, A3, n3, c3, HQ4.out⟩
        case round =>
          clear HR4 HX4 HQ4
          obtain ⟨m, hm, rfl, hR5, hP5, s5, A5, n5, c5, hQ5⟩ := hrel
          have HR5 := Lib.hid hR5
          have HP5 := Lib.hid hP5
          have HQ5 := Lib.hid hQ5
          by_cases hmB : m < 16
          · have hmI : (m : Int) < 16 := by omega
            have HB6 : Hid (Bd (((m * a : Nat) : Int) + (a : Int))) := Lib.hid (by
              have : ((m * a : Nat) : Int) + (a : Int) = ((m * a + a : Nat) : Int) := by omega
              rw [this]; apply bd_small
              have h1 := HA.out
              have h2 : m * a ≤ 16 * a := Nat.mul_le_mul_right _ (by omega)
              omega)
            have b0 := hQ5.c0
            have b1 := hQ5.c1
            have a0 := hP5.c0
            have a1 := hP5.c1
            clear hR5 hP5 hQ5
            go_wp2_with fail
            go_at_call 121
            refine (ri_addF _ s5 s2 A5 A2 c5 c2 n5 n2 _ _ HB6.out HQ5.out.v HP5.out.v).mono ?_
            rintro e w6 ⟨s6, A6, n6, c6, rfl, hI6, hb6⟩
            have hQ6 := HQ5.out.call hb6
            have g0 := hQ6.c0
            have g1 := hQ6.c1
            have g2 := hQ6.f0
            have g3 := hQ6.f1
            have HQ6 := Lib.hid (hQ6.set hI6)
            have HP6 := Lib.hid ((HP5.out.call hb6).farS (P := Q) (by omega) hQ6.c0 s6 (.slice A6 n6 c6))
            have HR6 := Lib.hid ((HR5.out.call hb6).set (P := Q) (by omega) (by omega) (.bool s6) (.slice A6 n6 c6))
            clear hQ6 hI6 hb6
            go_wp2
            go_roundw
            case rel =>
              go_light
              exact ⟨m + 1, by omega, by simp, HR6.out, HP6.out, s6, A6, n6, c6, by rw [show (((m + 1) * a : Nat) : Int) = ((m * a : Nat) : Int) + (a : Int) by rw [Nat.succ_mul]; omega]; exact HQ6.out⟩
            case measure => simp [intOf]; omega
          · have hmI : ¬ (m : Int) < 16 := by omega
            obtain rfl : m = 16 := by omega
            clear hR5 hP5 hQ5
            obtain ⟨q, hq⟩ : ∃ q, q = a * 16 + d := ⟨_, rfl⟩
            have HB7 : Hid (Bd (((16 * a : Nat) : Int) + (d : Int))) := Lib.hid (by
              have : ((16 * a : Nat) : Int) + (d : Int) = ((16 * a + d : Nat) : Int) := by omega
              rw [this]; apply bd_small
              have h1 := HA.out
              omega)
            have HQE : Hid (((16 * a : Nat) : Int) + (d : Int) = (q : Int)) := Lib.hid (by rw [hq]; omega)
            have KO : Hid (∀ W, Calls Tryz.prog 119 #[.int .i64 (d : Int)] W (RetF (d : Int) W)) := Lib.hid fun W => ri_of_pos d (by omega) (by omega) W
            have HQQ := Lib.hid hq
            have HW : Hid (LitR w P Q s5 A5 n5 c5 ((16 * a : Nat) : Int) wr) := Lib.hid ⟨HR5.out, hnp, hpq, HQ5.out⟩
            clear hq
            go_upto_region 15 with fail
            have hP0 := HP5.out.drew
            have HP0 := Lib.hid hP0
            clear hP0
            go_region_held3 (fun w' => LitR w P Q s5 A5 n5 c5 ((16 * a : Nat) : Int) w' ∧ w'.cell? ⟨Q, 0, none⟩ = some (.bool s5) ∧ w'.cell? ⟨Q, 1, none⟩ = some (.slice A5 n5 c5))
              (first
                | exact (LitR.drew HW.out).all
                | exact (LitR.call (And.left (by assumption)) (by assumption)).all
                | assumption
                | exact (LitR.set (And.left (by assumption)) (by assumption) _ _).all)
              (first
                | (go_at_call 120; refine (KD.out _).mono ?_; rintro e w7 ⟨rfl, rfl⟩)
                | (go_at_call 119; refine (KO.out _).mono ?_; rintro e w8 ⟨s8, A8, n8, c8, rfl, hI8, hb8⟩; have HP8 := Lib.hid (HP0.out.call hb8); have HI8 := Lib.hid hI8)
                | (go_at_call 121; refine (ri_addF _ s5 s8 A5 A8 c5 c8 n5 n8 _ _ HB7.out (BoxI.v (LitR.bq (And.left (by assumption)))) HI8.out).mono ?_; rintro e w9 ⟨s9, A9, n9, c9, rfl, hI9, hb9⟩; have hP9 := HP8.out.call hb9; have HP9 := Lib.hid hP9; have g0 := hP9.c0; have g1 := hP9.c1; have g2 := hP9.f0; have g3 := hP9.f1; have HI9 := Lib.hid hI9; have HR9 := Lib.hid (LitR.call (And.left (by assumption)) hb9)))
            have hX10 := HP9.out.set HI9.out
            have HR10 := Lib.hid ((HR9.out.res).set (P := P) (by omega) (by omega) (.bool s9) (.slice A9 n9 c9))
            have HX10 : Hid (BoxI ((w9.setCell ⟨P, 0, none⟩ (.bool s9)).setCell ⟨P, 1, none⟩ (.slice A9 n9 c9)) P s9 A9 n9 c9 (q : Int)) := Lib.hid (by rw [← HQE.out]; exact hX10)
            clear hX10
            generalize (w9.setCell ⟨P, 0, none⟩ (.bool s9)).setCell ⟨P, 1, none⟩ (.slice A9 n9 c9) = W10 at HX10 HR10 ⊢
            obtain ⟨v, hv⟩ : ∃ v, decide (0 ≤ (q : Int) ∧ (q : Int) < 340282366920938463463374607431768211456) = v := ⟨_, rfl⟩
            have KF : Hid (∀ W s A n c, IntS W s A n c (q : Int) → Calls Tryz.prog 122 #[.agg #[.bool s, .slice A n c]] W (RetX (.bool v) W)) := Lib.hid fun W s A n c h => by
              rw [← hv]; exact ri_fits W s A n c q (by
                unfold Bd
                have h1 := HA.out
                have h2 := HDB.out
                have h3 := HQQ.out
                have : ((q : Int) - 340282366920938463463374607431768211456).natAbs < 2 ^ 140 := by omega
                exact Nat.lt_trans this (by decide +kernel)) h
            have hv2 : v = decide (q < 340282366920938463463374607431768211456) := by
              rw [← hv, decide_eq_decide]; omega
            have HV := Lib.hid hv2
            have b0 := HX10.out.c0
            have b1 := HX10.out.c1
            clear hv hv2
            go_wp2_with fail
            go_at_call 122
            refine (KF.out _ _ _ _ _ HX10.out.v).mono ?_
            rintro e w11 ⟨rfl, hb11⟩
            have HX11 := Lib.hid (HX10.out.call hb11)
            have HR11 := Lib.hid (HR10.out.call hb11)
            clear hb11 b0 b1
            by_cases hqv : q < 340282366920938463463374607431768211456
            · have ev : v = true := by rw [HV.out, decide_eq_true hqv]
              subst ev
              have HQV := Lib.hid hqv
              clear hqv
              go_wp2
              go_roundw
              case rel =>
                go_light
                refine ⟨k + 1, q, by omega, by simp, ?_, HR11.out, hnp, s9, A9, n9, c9, HX11.out⟩
                have h := pv_step HPV.out (by rw [HC.out, HD.out]; exact HDB.out) (by rw [HC.out, HD.out, ← HQQ.out]; exact HQV.out)
                rw [HC.out, HD.out, ← HQQ.out] at h
                exact h
              case measure => simp [intOf]; omega
            · have ev : v = false := by rw [HV.out, decide_eq_false hqv]
              subst ev
              have hnone : pv 16 (bt t) t.size = none := pv_stop HPV.out hlk fun h => hqv (by have := h.2; rw [HC.out, HD.out, ← HQQ.out] at this; exact this)
              have HN := Lib.hid hnone
              clear hqv hnone
              go_wp2_with fail
              go_at_call 119
              refine (ri_of0 _).mono ?_
              rintro e w12 ⟨s12, A12, n12, c12, rfl, hI12, hb12⟩
              have hr3 := HR11.out.call hb12
              have HI12 := Lib.hid hI12
              have HR12 := Lib.hid hr3
              obtain ⟨r0, q0⟩ := hr3.c0
              obtain ⟨r1, r2, r3, q1⟩ := hr3.c1
              have f0 := hr3.f0
              have f1 := hr3.f1
              clear hI12 hr3 hb12
              go_wp2
              refine bodyPost_ret (v := .tuple #[.agg #[.bool s12, .slice A12 n12 c12], .bool false]) (by simp [results, Tryz.results90, go_sem, q0, q1]) rfl ⟨s12, A12, n12, c12, by rw [HN.out]; rfl, by rw [HN.out]; exact HI12.out.store q0 _ _, store2 HR12.out.below (by omega) _ _⟩
    · have e : k = t.size := by omega
      have hfin : pv 16 (bt t) t.size = some a := by rw [← e]; exact HPV.out
      have HFIN := Lib.hid hfin
      have hlk2 : ¬ (k : Int) < (t.size : Int) := by omega
      obtain ⟨v, hv⟩ : ∃ v, decide (0 < t.size) = v := ⟨_, rfl⟩
      have hte : (t.toList == []) = !v := by rw [← hv]; exact toList_nil t
      have HV := Lib.hid hv
      have hr3 := HL.out.res
      obtain ⟨r0, q0⟩ := hr3.c0
      obtain ⟨r1, r2, r3, q1⟩ := hr3.c1
      have f0 := hr3.f0
      have f1 := hr3.f1
      have b0 := HX.out.c0
      have b1 := HX.out.c1
      clear hfin hr3 hv
      go_wp2
      refine bodyPost_ret (v := .tuple #[.agg #[.bool s2, .slice A2 n2 c2], .bool v]) (by simp [results, Tryz.results90, go_sem, q0, q1]) rfl ⟨s2, A2, n2, c2, by rw [HFIN.out, ← HV.out]; rfl, by rw [HFIN.out]; exact HX.out.v.store q0 _ _, store2 HL.out.res.below (by omega) _ _⟩
theorem ext_all (s : ByteArray) : (s.extract 2 s.size).size = s.size - 2 := by rw [ByteArray.size_extract]; omega
theorem ri_literal (s : ByteArray) (hs : s.size < 9223372036854775807) (w : World) :
    Calls Tryz.prog 90 #[.string s] w (RetFB (((litV s).getD 0 : Nat) : Int) (litV s).isSome w) := by
  by_cases h2 : 2 < s.size
  · by_cases hx : ((s.extract 0 2).toList == x0.toList) = true
    · have hp : hpB s x0 = true := by
        unfold hpB; rw [show x0.size = 2 from rfl, hx, decide_eq_true (by omega)]; rfl
      have hl : litV s = pv 16 (bt (s.extract 2 s.size)) (s.extract 2 s.size).size := by
        unfold litV litS litB; rw [if_pos hp, if_pos hp, if_pos (by rw [ext_all]; omega)]
      rw [hl]
      have h := ri_lit16 s hs h2 hx w
      rw [decide_eq_true (show 0 < (s.extract 2 s.size).size by rw [ext_all]; omega), Bool.and_true] at h
      exact h
    · have hx2 : ((s.extract 0 2).toList == x0.toList) = false := by simpa using hx
      have hp : hpB s x0 = false := by
        unfold hpB; rw [show x0.size = 2 from rfl, hx2, Bool.and_false]
      have hl : litV s = pv 10 (bt s) s.size := by
        have hp3 : ¬ hpB s x0 = true := by rw [hp]; decide
        unfold litV litS litB; rw [if_neg hp3, if_neg hp3, if_pos (by omega)]
      rw [hl]
      have h := ri_lit10 s hs (by rw [hx2, Bool.and_false]) w
      rw [decide_eq_true (show 0 < s.size by omega), Bool.and_true] at h
      exact h
  · have h := ri_lit10 s hs (by rw [decide_eq_false h2, Bool.false_and]) w
    by_cases hp : hpB s x0 = true
    · -- the text is "0x"
      have hp2 := hp
      unfold hpB at hp2
      rw [show x0.size = 2 from rfl, Bool.and_eq_true, decide_eq_true_iff, beq_iff_eq, x0_list] at hp2
      have hsz : s.size = 2 := by omega
      have hl : litV s = none := by
        unfold litV litS; rw [if_pos hp, if_neg (by rw [ext_all]; omega)]
      have hb1 : bt s 1 = 120 := by
        have e := hp2.2
        rw [ByteArray.toList_eq] at e
        have e3 : (s.extract 0 2).data.toList[1]? = some 120 := by rw [e]; rfl
        unfold bt
        rw [dif_pos (by omega)]
        have e4 : (s.extract 0 2).data.toList[1]? = some (s[1]'(by omega)) := by
          rw [ByteArray.data_extract, Array.getElem?_toList, Array.getElem?_extract]
          simp [hsz]
          rfl
        rw [e4] at e3
        injection e3 with e3
        rw [e3]; rfl
      have hb0 : pv 10 (bt s) s.size = none := by
        rw [hsz, pv]
        cases hq : pv 10 (bt s) 1 with
        | none => rfl
        | some a => rw [Option.bind_some, if_neg (by rw [hb1]; intro h; have := h.1; revert this; decide)]
      rw [hl]
      rw [hb0] at h
      exact h
    · have hl : (litV s).getD 0 = (pv 10 (bt s) s.size).getD 0 ∧ (litV s).isSome = ((pv 10 (bt s) s.size).isSome && decide (0 < s.size)) := by
        unfold litV litS litB; rw [if_neg hp, if_neg hp]
        by_cases h0 : 0 < s.size
        · rw [if_pos h0, decide_eq_true h0, Bool.and_true]; exact ⟨rfl, rfl⟩
        · rw [if_neg h0, decide_eq_false h0, Bool.and_false, show s.size = 0 by omega]; exact ⟨rfl, rfl⟩
      rw [hl.1, hl.2]
      exact h
end Go.Proofs.YtodmkmoglchoeaaGreatDoor
