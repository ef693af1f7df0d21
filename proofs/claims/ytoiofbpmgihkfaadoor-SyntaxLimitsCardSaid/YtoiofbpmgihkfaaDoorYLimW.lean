/- SyntaxLimits, its walk. -/
import Derived.Test.YtoiofbpmgihkfaaDoorYLimP
import Derived.Test.YtoiofbpmgihkfaaDoorJYLaw
import Derived.Test.YtoiofbpmgihkfaaDoorLSame
namespace Go.Proofs.YtoiofbpmgihkfaaDoor
open Go.RowKit

theorem hid_parsed (s : ByteArray) (hs : s.size ≤ 1000) : Hid (∀ W : World, Syms W → SymY W → Calls Tryd.prog 20 #[.string s] W (RetPd s W)) := Lib.hid fun W h1 h2 => ly_parsed s (by omega) W h1 h2
def txtL (a b c : ByteArray) (k : Nat) : ByteArray := if k = 0 then a else if k = 1 then b else c
set_option maxRecDepth 100000 in
set_option maxHeartbeats 8000000 in
theorem ll_any (w : World) (x : Int) (hy : Syms w) (hy2 : SymY w) :
    Calls Tryd.prog 9 #[.int .i64 x] w (RetX (.bool true) w) := by
  have HY := Lib.hid hy
  have HY2 := Lib.hid hy2
  have hlt1 : 1 < w.heap.size := hy2.lt
  clear hy hy2
  go_enter Tryd.func9, Tryd.ntmps9
  go_wp2_with fail
  go_at_call 13
  refine (cs_modN x 5 (by decide) (by decide) w).mono ?_
  rintro e w1 ⟨r, hr, rfl, rfl⟩
  go_wp2_with fail
  go_loop [3, 6] (fun s i => ∃ k : Nat, k ≤ 57 + r ∧ s = .string (wideN k) ∧ i = .int .i64 k) (fun _ i => 57 + r - (intOf i).toNat)
  case atStart => exact ⟨0, by omega, rfl, rfl⟩
  case round =>
    obtain ⟨k, hk, rfl, rfl⟩ := hrel
    by_cases hlt : k < 57 + r
    · have hI : (k : Int) < 57 + (r : Int) := by omega
      have hsz := wide_size k
      have hcat : ¬ 9223372036854775807 < (wideN k).size + 2 := by omega
      have hst : wideN k ++ (⟨#[43, 98]⟩ : ByteArray) = wideN (k + 1) := rfl
      have HST := Lib.hid hst
      clear hsz hst
      go_wp2_with fail
      go_round
      case rel => exact ⟨k + 1, by omega, by rw [← HST.out], by simp⟩
      case measure => simp [intOf]; omega
    · have hI : ¬ (k : Int) < 57 + (r : Int) := by omega
      obtain rfl : k = 57 + r := by omega
      obtain ⟨sW, hW⟩ : ∃ s, s = wideN (57 + r) := ⟨_, rfl⟩
      have HW := Lib.hid hW
      have hWs : sW.size ≤ 1000 := by rw [hW, wide_size]; omega
      rw [← hW]
      clear hW hlt
      go_wp2_with fail
      go_loop [4, 5, 7] (fun s t i => ∃ k : Nat, k ≤ 10 + r ∧ s = .string (deepN k) ∧ t = .string (rightN k) ∧ i = .int .i64 k) (fun _ _ i => 10 + r - (intOf i).toNat)
      case atStart => exact ⟨0, by omega, rfl, rfl, rfl⟩
      case round =>
        obtain ⟨k, hk2, rfl, rfl, rfl⟩ := hrel
        by_cases hlt : k < 10 + r
        · have hI2 : (k : Int) < 10 + (r : Int) := by omega
          have hs1 := deep_size k
          have hs2 := right_size k
          have hcat1 : ¬ 9223372036854775807 < 1 + (deepN k).size := by omega
          have hcat2 : ¬ 9223372036854775807 < (rightN k).size + 3 := by omega
          have hst1 : (⟨#[33]⟩ : ByteArray) ++ deepN k = deepN (k + 1) := rfl
          have hst2 : rightN k ++ (⟨#[45, 62, 97]⟩ : ByteArray) = rightN (k + 1) := rfl
          have HST1 := Lib.hid hst1
          have HST2 := Lib.hid hst2
          clear hs1 hs2 hst1 hst2 hI
          go_wp2_with fail
          go_round
          case rel => exact ⟨k + 1, by omega, by rw [← HST1.out], by rw [← HST2.out], by simp⟩
          case measure => simp [intOf]; omega
        · have hI2 : ¬ (k : Int) < 10 + (r : Int) := by omega
          obtain rfl : k = 10 + r := by omega
          obtain ⟨sD, hD⟩ : ∃ s, s = deepN (10 + r) := ⟨_, rfl⟩
          obtain ⟨sR, hR⟩ : ∃ s, s = rightN (10 + r) := ⟨_, rfl⟩
          have HD := Lib.hid hD
          have hDs : sD.size ≤ 1000 := by rw [hD, deep_size]; omega
          have hRs : sR.size ≤ 1000 := by rw [hR, right_size]; omega
          rw [← hD, ← hR]
          clear hD hR hlt
          have KW := hid_parsed sW hWs
          have KD := hid_parsed sD hDs
          have KR := hid_parsed sR hRs
          go_wp2_with fail
          have hcs : ∀ j, j < 3 → (w.alloc (.cells #[.string sW, .string sD, .string sR] 9)).cell? ⟨w.heap.size, j, none⟩ = some (.string (txtL sW sD sR j)) := fun j hj => by
            rw [World.cell?_alloc_new]
            have h3 : j = 0 ∨ j = 1 ∨ j = 2 := by omega
            rcases h3 with rfl | rfl | rfl <;> rfl
          have HCS := Lib.hid hcs
          have HB1 : Hid (Below w.heap.size w (w.alloc (.cells #[.string sW, .string sD, .string sR] 9))) := Lib.hid ((Below.refl _ _).alloc (Nat.le_refl _) _)
          have hO : w.heap.size < (w.alloc (.cells #[.string sW, .string sD, .string sR] 9)).heap.size := by simp
          clear hcs
          generalize w.alloc (.cells #[.string sW, .string sD, .string sR] 9) = W1 at HCS HB1 hO ⊢
          obtain ⟨O, hOO⟩ : ∃ O, O = w.heap.size := ⟨_, rfl⟩
          rw [← hOO] at HCS hO ⊢
          have HOO := Lib.hid hOO
          clear hOO
          go_loopw [47, 9, 10, 11, 12, 13] (fun i _ _ _ _ _ w' => ∃ k : Nat, k ≤ 3 ∧ i = .int .i64 k ∧ Below W1.heap.size W1 w') (fun i _ _ _ _ _ _ => 3 - (intOf i).toNat)
          case atStart => exact ⟨0, by omega, rfl, Below.refl _ _⟩
          case round =>
            obtain ⟨k, hk3, rfl, hB⟩ := hrel
            have HB := Lib.hid hB
            have hsz := hB.size
            have hBw := HB1.out.trans (hB.mono HB1.out.size)
            have HBW := Lib.hid hBw
            have hszw := hBw.size
            have HYa := Lib.hid (HY.out.below hBw (by omega))
            have HYb := Lib.hid (HY2.out.below hBw hlt1)
            clear hB hBw
            by_cases hlt : k < 3
            · have hI3 : (k : Int) < 3 := by omega
              obtain ⟨t, ht⟩ : ∃ t, t = txtL sW sD sR k := ⟨_, rfl⟩
              have hcell : wr.cell? ⟨O, k, none⟩ = some (.string t) := by rw [HB.out.cell (p := ⟨O, k, none⟩) hO, ht]; exact HCS.out k hlt
              have KT : Hid (∀ W : World, Syms W → SymY W → Calls Tryd.prog 20 #[.string t] W (RetPd t W)) := by
                rw [ht]; unfold txtL
                split
                · exact KW
                · split
                  · exact KD
                  · exact KR
              clear ht
              go_wp2_with fail
              go_at_call 20
              refine (KT.out _ HYa.out HYb.out).mono ?_
              rintro e w3 ⟨A3, c3, A4, c4, rfl, _, _, _, _, hb3⟩
              have HB3 := Lib.hid (HB.out.trans (hb3.mono hsz))
              clear hb3
              go_wp2_with fail
              go_roundw
              case rel => (go_light; exact ⟨k + 1, by omega, by simp, HB3.out⟩)
              case measure => simp [intOf]; omega
            · have hI3 : ¬ (k : Int) < 3 := by omega
              obtain ⟨bW, hbW⟩ : ∃ b, b = pOk sW := ⟨_, rfl⟩
              obtain ⟨bD, hbD⟩ : ∃ b, b = pOk sD := ⟨_, rfl⟩
              have hbW2 : bW = decide (r ≤ 2) := by rw [hbW, HW.out]; exact wide_is r hr
              have hbD2 : bD = decide (r ≤ 2) := by rw [hbD, HD.out]; exact deep_is r hr
              have HBW1 := Lib.hid hbW
              have HBD1 := Lib.hid hbD
              have HBW2 := Lib.hid hbW2
              have HBD2 := Lib.hid hbD2
              clear hbW hbD hbW2 hbD2 hI hI2
              go_wp2_with fail
              go_at_call 20
              refine (KW.out _ HYa.out HYb.out).mono ?_
              rintro e w3 ⟨A3, c3, A4, c4, rfl, _, _, _, _, hb3⟩
              rw [← HBW1.out]
              have HB3 := Lib.hid (HBW.out.trans (hb3.mono hszw))
              have h3 := HB3.out.size
              have HYc := Lib.hid (HY.out.below HB3.out (by omega))
              have HYd := Lib.hid (HY2.out.below HB3.out hlt1)
              clear hb3
              go_wp2_with fail
              go_at_call 20
              refine (KD.out _ HYc.out HYd.out).mono ?_
              rintro e w4 ⟨A5, c5, A6, c6, rfl, _, _, _, _, hb4⟩
              rw [← HBD1.out]
              have HB4 := Lib.hid (HB3.out.trans (hb4.mono h3))
              have h4 := HB4.out.size
              have HYe := Lib.hid (HY.out.below HB4.out (by omega))
              have HYf := Lib.hid (HY2.out.below HB4.out hlt1)
              clear hb4
              by_cases hr2 : r ≤ 2
              · obtain rfl : bW = true := by rw [HBW2.out, decide_eq_true hr2]
                obtain rfl : bD = true := by rw [HBD2.out, decide_eq_true hr2]
                have i1 : IntKind.i64.wrap (2 * (57 + (r : Int))) = 2 * (57 + (r : Int)) := IntWalk.i64_in _ (by omega)
                have i2 : 2 * (57 + (r : Int)) + 1 ≤ 120 := by omega
                have i3 : (r : Int) ≤ 2 := by omega
                go_wp2_with fail
                go_at_call 21
                refine (ly_begun _ HYe.out HYf.out).mono ?_
                rintro e w5 ⟨rfl, hb5⟩
                have HB5 := Lib.hid (HB4.out.trans (hb5.mono h4))
                clear hb5
                go_wp2_with fail
                go_ret
                exact ⟨by first | rfl | (simp; omega) | simp, HB5.out⟩
              · obtain rfl : bW = false := by rw [HBW2.out, decide_eq_false hr2]
                obtain rfl : bD = false := by rw [HBD2.out, decide_eq_false hr2]
                have i1 : IntKind.i64.wrap (2 * (57 + (r : Int))) = 2 * (57 + (r : Int)) := IntWalk.i64_in _ (by omega)
                have i2 : ¬ 2 * (57 + (r : Int)) + 1 ≤ 120 := by omega
                have i3 : ¬ (r : Int) ≤ 2 := by omega
                go_wp2_with fail
                go_at_call 21
                refine (ly_begun _ HYe.out HYf.out).mono ?_
                rintro e w5 ⟨rfl, hb5⟩
                have HB5 := Lib.hid (HB4.out.trans (hb5.mono h4))
                clear hb5
                go_wp2_with fail
                go_ret
                exact ⟨by first | rfl | (simp; omega) | simp, HB5.out⟩
end Go.Proofs.YtoiofbpmgihkfaaDoor
