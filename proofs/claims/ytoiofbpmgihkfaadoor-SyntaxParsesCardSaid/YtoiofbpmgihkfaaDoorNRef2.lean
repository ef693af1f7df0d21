/- matchguardref05: plus, minus, compare. -/
import Derived.Test.YtoiofbpmgihkfaaDoorNRef
namespace Go.Proofs.YtoiofbpmgihkfaaDoor
open Go.RowKit

/-- a slice with digits comes back -/
def RetDig (n L : Nat) (w : World) (e : Ending) (w' : World) : Prop := ∃ A cap R, e = .returned (.slice A L cap) ∧ R.length = L ∧ L ≤ cap ∧ Sm R ∧ dv R = n ∧ DigA w' A R ∧ (∀ ad, A = some ad → w.heap.size ≤ ad.block) ∧ Below w.heap.size w w'
theorem app_below {w W W2 : World} {v : Value} {n : Nat} {l : List Value} (hb : Below w.heap.size w W) (h : W.ownsRow w.heap.size 3 1 v n l) (o : Obj) (hg : (W.alloc o).grownBy W2 v.ownBlock) : Below w.heap.size w W2 :=
  (hb.alloc hb.size o).grown hg (Nat.le_trans hb.size (by simp)) (fun _ hk => own_block_ge h hk)
set_option maxRecDepth 100000 in
set_option maxHeartbeats 2000000 in
theorem ri_plus (w : World) (A1 A2 : Option Addr) (c1 c2 n1 n2 : Nat) (D1 D2 : List Nat) (hn1 : D1.length = n1) (hn2 : D2.length = n2) (hl1 : D1.length ≤ 900) (hl2 : D2.length ≤ 900) (hS1 : Sm D1) (hS2 : Sm D2) (h1 : DigA w A1 D1) (h2 : DigA w A2 D2) :
    Calls Tryd.prog 60 #[.slice A1 n1 c1, .slice A2 n2 c2] w (RetDig (dv D1 + dv D2) (max n1 n2 + 1) w) := by
  subst hn1 hn2
  obtain ⟨i0, hi0⟩ : ∃ i, Tryd.prog.info? 3 = some i := Option.isSome_iff_exists.1 (by kernel_rfl)
  have hz0 : i0.zero = some (.int .i64 0) := by
    have : (Tryd.prog.info? 3).map (·.zero) = some (some (.int .i64 0)) := by kernel_rfl
    rw [hi0] at this; simpa using this
  have hy1 : i0.size = 1 := by
    have : (Tryd.prog.info? 3).map (·.size) = some 1 := by kernel_rfl
    rw [hi0] at this; simpa using this
  have hy2 : i0.bytes = 8 := by
    have : (Tryd.prog.info? 3).map (·.bytes) = some 8 := by kernel_rfl
    rw [hi0] at this; simpa using this
  have HI := Lib.hid hi0
  have HZ := Lib.hid hz0
  have HY1 := Lib.hid hy1
  have HY2 := Lib.hid hy2
  have HS1 := Lib.hid hS1
  have HS2 := Lib.hid hS2
  have H1 := Lib.hid h1
  have H2 := Lib.hid h2
  obtain ⟨m, hm⟩ : ∃ m, max D1.length D2.length = m := ⟨_, rfl⟩
  have hm1 : D1.length ≤ m := by omega
  have hm2 : D2.length ≤ m := by omega
  have hm3 : m ≤ 900 := by omega
  have hmx : max (D1.length : Int) (D2.length : Int) = m := by omega
  rw [hm]
  clear hi0 hz0 hy1 hy2 hS1 hS2 h1 h2 hm
  go_enter Tryd.func60, Tryd.ntmps60
  go_wp2
  go_loopw [5, 6, 7] (fun v c i w' => ∃ (R : List Nat) (cc : Nat), R.length ≤ m + 1 ∧ i = .int .i64 (R.length : Nat) ∧ c = .int .i64 (cc : Nat) ∧ cc ≤ 1 ∧ Sm R ∧ Hid (dv R + cc * 10 ^ R.length = dv (D1.take R.length) + dv (D2.take R.length)) ∧ Below w.heap.size w w' ∧ w'.ownsRow w.heap.size 3 1 v R.length (dcs R)) (fun _ _ i _ => m + 1 - (intOf i).toNat)
  case atStart => exact ⟨[], 0, by simp, by simp, by simp, by omega, (fun x hx => by cases hx), Lib.hid (by simp [dv]), Below.refl _ _, World.ownsRow_nil _ _ _ _⟩
  case round =>
    obtain ⟨R, cc, hR, rfl, rfl, hcc, hSR, HK, hB, hO⟩ := hrel
    obtain ⟨AR, capR, rfl⟩ := own_form2 hO
    have HSR := Lib.hid hSR
    have HB := Lib.hid hB
    have HO := Lib.hid hO
    clear hSR hB hO
    by_cases hlt : (R.length : Int) < (m : Int) + 1
    · obtain ⟨x, hx⟩ : ∃ x, gd D1 R.length = x := ⟨_, rfl⟩
      obtain ⟨y, hy⟩ : ∃ y, gd D2 R.length = y := ⟨_, rfl⟩
      have hx9 : x < 10 := by rw [← hx]; exact sm_getD HS1.out _
      have hy9 : y < 10 := by rw [← hy]; exact sm_getD HS2.out _
      have HX := Lib.hid hx
      have HY := Lib.hid hy
      clear hx hy
      have ED : Hid (((x : Int) + (y : Int) + (cc : Int)) % 10 = (((x + y + cc) % 10 : Nat) : Int)) := Lib.hid (by omega)
      have EQ : Hid (((x : Int) + (y : Int) + (cc : Int)) / 10 = (((x + y + cc) / 10 : Nat) : Int)) := Lib.hid (by omega)
      go_wp2_with (first
        | (go_at_call 75; (first
          | ((with_reducible refine (ri_at _ A1 c1 _ D1 rfl (by omega) (H1.out.below HB.out) R.length).mono ?_); rintro e w1 ⟨rfl, rfl⟩; rw [HX.out])
          | (refine (ri_at _ A2 c2 _ D2 rfl (by omega) (H2.out.below HB.out) R.length).mono ?_; rintro e w1 ⟨rfl, rfl⟩; rw [HY.out])))
        | (at_builtin; (refine wpList_append_own _ rfl (.tmp 28) (.tmp 31) 68 rfl w.heap.size 3 i0 _ 1 8 Tryd.underlying68 HI.out HZ.out HY1.out HY2.out rfl (by decide) _ R.length _ rfl (World.ownsRow.alloc HO.out _) ⟨wr.heap.size, 0, none⟩ 1 1 [.int .i64 (((x : Int) + (y : Int) + (cc : Int)) % 10)] rfl rfl (cell_one_new _ _ _) (by simp [Value.oneCell']) (by unfold maxLen; omega) (by omega) (by have := HB.out.size; simp; omega) ?_; intro v4 w4 hO4 hg4 hi4; clear hi4; rw [ED.out] at hO4; have HB4 := Lib.hid (app_below HB.out HO.out _ hg4); have HO4 := Lib.hid hO4; obtain ⟨A4, cap4, rfl⟩ := own_form2 hO4; clear hO4 hg4)))
      go_roundw
      case rel =>
        go_light
        refine ⟨R ++ [(x + y + cc) % 10], (x + y + cc) / 10, by simp; omega, by simp, by rw [EQ.out], by omega, sm_snoc HSR.out (by omega), Lib.hid ?_, HB4.out, by rw [dcs_snoc, List.length_append]; exact HO4.out⟩
        rw [dv_snoc, List.length_append, List.length_singleton, dv_take, dv_take, Nat.pow_succ]
        have hx := HX.out
        have hy := HY.out
        unfold gd at hx hy
        rw [hx, hy]
        exact plus_step HK.out rfl
      case measure => simp [intOf]; omega
    · have e : R.length = m + 1 := by omega
      have HE := Lib.hid e
      have HV : Hid (dv R = dv D1 + dv D2) := Lib.hid (by
        have h := HK.out
        rw [e, List.take_of_length_le (by omega), List.take_of_length_le (by omega)] at h
        exact plus_end h (dv_part_lt HS1.out m hm1) (dv_part_lt HS2.out m hm2))
      clear e
      go_wp2
      go_ret
      exact ⟨AR, capR, R, by rw [← HE.out]; rfl, HE.out, by rw [← HE.out]; exact own_le HO.out, HSR.out, HV.out, dig_own HO.out, (fun ad h => own_block_ge (k := ad.block) HO.out (by rw [h]; rfl)), HB.out⟩
end Go.Proofs.YtoiofbpmgihkfaaDoor
