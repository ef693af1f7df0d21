/- matchguardref05: minus, compare. -/
import Derived.Test.YtoiofbpmgihkfaaDoorNRef2
import Derived.Test.YtoiofbpmgihkfaaDoorNCmp
namespace Go.Proofs.YtoiofbpmgihkfaaDoor
open Go.RowKit

theorem quiet_now {P : Program} {f : FuncId} {args : Array Value} {w : World} {n : Nat} {v : Value} (h : Calls P f args (w.drewN n) fun e w' => e = .returned v ∧ w.drewN n = w') : Calls P f args (w.drewN n) fun e w'' => e = .returned v ∧ ∃ m, w'' = w.drewN m :=
  h.mono fun _ _ h => ⟨h.1, n, h.2.symm⟩
theorem below_drewN2 {B : Nat} {w0 w : World} {n : Nat} (h : Below B w0 w) : Below B w0 (w.drewN n) := by
  induction n with
  | zero => exact h
  | succ n ih => exact ih.drew
theorem own_drewN2 {w : World} {B e sz n q : Nat} {v : Value} {l : List Value} (h : w.ownsRow B e sz v n l) : (w.drewN q).ownsRow B e sz v n l := by
  induction q with
  | zero => exact h
  | succ q ih => exact World.ownsRow.drew ih
set_option maxRecDepth 100000 in
set_option maxHeartbeats 2000000 in
theorem ri_minus (w : World) (A1 A2 : Option Addr) (c1 c2 n1 n2 : Nat) (D1 D2 : List Nat) (hn1 : D1.length = n1) (hn2 : D2.length = n2) (hl1 : D1.length ≤ 900) (hl : D2.length ≤ D1.length) (hv : dv D2 ≤ dv D1) (hS1 : Sm D1) (hS2 : Sm D2) (h1 : DigA w A1 D1) (h2 : DigA w A2 D2) :
    Calls Tryd.prog 62 #[.slice A1 n1 c1, .slice A2 n2 c2] w (RetDig (dv D1 - dv D2) n1 w) := by
  subst hn1 hn2
  obtain ⟨i0, hi0⟩ : ∃ i, Tryd.prog.info? 3 = some i := Option.isSome_iff_exists.1 (by kernel_rfl)
  have hz0 : i0.zero = some (.int .i64 0) := by
    have : (Tryd.prog.info? 3).map (·.zero) = some (some (.int .i64 0)) := by kernel_rfl
    rw [hi0] at this; simpa using this
  have hy1 : i0.size = 1 := by
    have : (Tryd.prog.info? 3).map (·.size) = some 1 := by kernel_rfl
    rw [hi0] at this; simpa using this
  have hy2 : i0.bytes = 8 := by
    have : (Tryd.prog.info? 3).map (·.bytes) = some 8 := by kernel_rfl
    rw [hi0] at this; simpa using this
  have HI := Lib.hid hi0
  have HZ := Lib.hid hz0
  have HY1 := Lib.hid hy1
  have HY2 := Lib.hid hy2
  have HS1 := Lib.hid hS1
  have HS2 := Lib.hid hS2
  have H1 := Lib.hid h1
  have H2 := Lib.hid h2
  have HV := Lib.hid hv
  clear hi0 hz0 hy1 hy2 hS1 hS2 h1 h2 hv
  go_enter Tryd.func62, Tryd.ntmps62
  go_wp2
  go_loopw [5, 6, 11] (fun v c i w' => ∃ (R : List Nat) (cc : Nat), R.length ≤ D1.length ∧ i = .int .i64 (R.length : Nat) ∧ c = .int .i64 (cc : Nat) ∧ cc ≤ 1 ∧ Sm R ∧ Hid (dv R + dv (D2.take R.length) = dv (D1.take R.length) + cc * 10 ^ R.length) ∧ Below w.heap.size w w' ∧ w'.ownsRow w.heap.size 3 1 v R.length (dcs R)) (fun _ _ i _ => D1.length - (intOf i).toNat)
  case atStart => exact ⟨[], 0, by simp, by simp, by simp, by omega, (fun x hx => by cases hx), Lib.hid (by simp [dv]), Below.refl _ _, World.ownsRow_nil _ _ _ _⟩
  case round =>
    obtain ⟨R, cc, hR, rfl, rfl, hcc, hSR, HK, hB, hO⟩ := hrel
    obtain ⟨AR, capR, rfl⟩ := own_form2 hO
    have HSR := Lib.hid hSR
    have HB := Lib.hid hB
    have HO := Lib.hid hO
    clear hSR hB hO
    by_cases hlt : (R.length : Int) < (D1.length : Int)
    · obtain ⟨x, hx⟩ : ∃ x, gd D1 R.length = x := ⟨_, rfl⟩
      obtain ⟨y, hy⟩ : ∃ y, gd D2 R.length = y := ⟨_, rfl⟩
      have hx9 : x < 10 := by rw [← hx]; exact sm_getD HS1.out _
      have hy9 : y < 10 := by rw [← hy]; exact sm_getD HS2.out _
      obtain ⟨b, hA1, hb1, hcl⟩ := H1.out.at R.length (by omega)
      have hcell : wr.cell? ⟨b, R.length, none⟩ = some (.int .i64 (x : Nat)) := by rw [HB.out.cell (p := ⟨b, R.length, none⟩) hb1, hcl, hx]
      have HX := Lib.hid hx
      have HY := Lib.hid hy
      subst hA1
      clear hx hy hb1 hcl
      go_wp2
      go_quiet ((go_at_call 75; exact quiet_now (ri_at _ A2 c2 _ D2 rfl (by omega) (H2.out.below (below_drewN2 HB.out)) R.length)))
      rw [HY.out]
      have HB9 := Lib.hid (below_drewN2 (n := nq) HB.out)
      have HO9 := Lib.hid (own_drewN2 (q := nq) HO.out)
      clear hcell
      generalize wr.drewN nq = w9 at HB9 HO9 ⊢
      by_cases hneg : x < y + cc
      · obtain ⟨d, hd⟩ : ∃ d, d + y + cc = x + 10 := ⟨x + 10 - y - cc, by omega⟩
        have hd9 : d < 10 := by omega
        have ew : wrap64 (wrap64 ((x : Int) - (y : Int)) - (cc : Int)) = (d : Int) - 10 := by rw [IntWalk.wrap64_in ((x : Int) - (y : Int)) (by omega), IntWalk.wrap64_in _ (by omega)]; omega
        have e2 : (d : Int) - 10 + 10 = (d : Int) := by omega
        have e3 : (d : Int) - 10 < 0 := by omega
        rw [ew]
        clear ew
        have HD9 := Lib.hid hd
        clear hd hneg
        go_wp2_with (at_builtin; (refine wpList_append_own _ rfl (.tmp 28) (.tmp 30) 68 rfl w.heap.size 3 i0 _ 1 8 Tryd.underlying68 HI.out HZ.out HY1.out HY2.out rfl (by decide) _ R.length _ rfl (World.ownsRow.alloc HO9.out _) ⟨w9.heap.size, 0, none⟩ 1 1 [.int .i64 (d : Int)] rfl rfl (cell_one_new _ _ _) (by simp [Value.oneCell']) (by unfold maxLen; omega) (by omega) (by have := HB9.out.size; simp; omega) ?_; intro v4 w4 hO4 hg4 hi4; clear hi4; have HB4 := Lib.hid (app_below HB9.out HO9.out _ hg4); have HO4 := Lib.hid hO4; obtain ⟨A4, cap4, rfl⟩ := own_form2 hO4; clear hO4 hg4))
        go_roundw
        case rel =>
          go_light
          refine ⟨R ++ [d], 1, by simp; omega, by simp, by simp, by omega, sm_snoc HSR.out hd9, Lib.hid ?_, HB4.out, by rw [dcs_snoc, List.length_append]; exact HO4.out⟩
          rw [dv_snoc, List.length_append, List.length_singleton, dv_take, dv_take, Nat.pow_succ]
          have hx := HX.out
          have hy := HY.out
          unfold gd at hx hy
          rw [hx, hy]
          have hd := HD9.out
          exact minus_step HK.out (by omega)
        case measure => simp [intOf]; omega
      · obtain ⟨d, hd⟩ : ∃ d, d + y + cc = x := ⟨x - y - cc, by omega⟩
        have hd9 : d < 10 := by omega
        have ew : wrap64 (wrap64 ((x : Int) - (y : Int)) - (cc : Int)) = (d : Int) := by rw [IntWalk.wrap64_in ((x : Int) - (y : Int)) (by omega), IntWalk.wrap64_in _ (by omega)]; omega
        have e3 : ¬ (d : Int) < 0 := by omega
        rw [ew]
        clear ew
        have HD9 := Lib.hid hd
        clear hd hneg
        go_wp2_with (at_builtin; (refine wpList_append_own _ rfl (.tmp 28) (.tmp 30) 68 rfl w.heap.size 3 i0 _ 1 8 Tryd.underlying68 HI.out HZ.out HY1.out HY2.out rfl (by decide) _ R.length _ rfl (World.ownsRow.alloc HO9.out _) ⟨w9.heap.size, 0, none⟩ 1 1 [.int .i64 (d : Int)] rfl rfl (cell_one_new _ _ _) (by simp [Value.oneCell']) (by unfold maxLen; omega) (by omega) (by have := HB9.out.size; simp; omega) ?_; intro v4 w4 hO4 hg4 hi4; clear hi4; have HB4 := Lib.hid (app_below HB9.out HO9.out _ hg4); have HO4 := Lib.hid hO4; obtain ⟨A4, cap4, rfl⟩ := own_form2 hO4; clear hO4 hg4))
        go_roundw
        case rel =>
          go_light
          refine ⟨R ++ [d], 0, by simp; omega, by simp, by simp, by omega, sm_snoc HSR.out hd9, Lib.hid ?_, HB4.out, by rw [dcs_snoc, List.length_append]; exact HO4.out⟩
          rw [dv_snoc, List.length_append, List.length_singleton, dv_take, dv_take, Nat.pow_succ]
          have hx := HX.out
          have hy := HY.out
          unfold gd at hx hy
          rw [hx, hy]
          have hd := HD9.out
          exact minus_step HK.out (by omega)
        case measure => simp [intOf]; omega
    · have e : R.length = D1.length := by omega
      have HE := Lib.hid e
      have HV2 : Hid (dv R = dv D1 - dv D2) := Lib.hid (by
        have h := HK.out
        have hlt := dv_lt HSR.out
        rw [e, List.take_of_length_le (by omega), List.take_length] at h
        exact minus_end h (by rw [← e]; exact hlt) HV.out)
      clear e
      go_wp2
      go_ret
      exact ⟨AR, capR, R, by rw [← HE.out]; rfl, HE.out, by rw [← HE.out]; exact own_le HO.out, HSR.out, HV2.out, dig_own HO.out, (fun ad h => own_block_ge (k := ad.block) HO.out (by rw [h]; rfl)), HB.out⟩

set_option maxRecDepth 100000 in
set_option maxHeartbeats 2000000 in
theorem ri_cmp (w : World) (A1 A2 : Option Addr) (c1 c2 n1 n2 a b : Nat) (hn1 : (cd a).length = n1) (hn2 : (cd b).length = n2) (hl1 : (cd a).length ≤ 900) (h1 : DigA w A1 (cd a)) (h2 : DigA w A2 (cd b)) :
    Calls Tryd.prog 61 #[.slice A1 n1 c1, .slice A2 n2 c2] w fun e w' => e = .returned (.int .i64 (sgn a b)) ∧ ∃ q, w' = w.drewN q := by
  subst hn1 hn2
  by_cases hlt : (cd a).length < (cd b).length
  · have e : sgn a b = -1 := by have := cd_lt_of_len hlt; unfold sgn; rw [if_neg (by omega), if_pos (by omega)]
    have h3 : ((cd a).length : Int) < ((cd b).length : Int) := by omega
    have h4 : (((cd a).length : Int) == ((cd b).length : Int)) = false := by simp; omega
    rw [e]
    clear e hlt
    go_enter Tryd.func61, Tryd.ntmps61
    go_wp2
    go_ret
    exact ⟨rfl, 0, rfl⟩
  · by_cases hgt : (cd b).length < (cd a).length
    · have e : sgn a b = 1 := by have := cd_lt_of_len hgt; unfold sgn; rw [if_neg (by omega), if_neg (by omega)]
      have h3 : ¬ ((cd a).length : Int) < ((cd b).length : Int) := by omega
      have h4 : (((cd a).length : Int) == ((cd b).length : Int)) = false := by simp; omega
      rw [e]
      clear e hlt hgt
      go_enter Tryd.func61, Tryd.ntmps61
      go_wp2
      go_ret
      exact ⟨rfl, 0, rfl⟩
    · have el : (cd a).length = (cd b).length := by omega
      have HL := Lib.hid el
      have H1 := Lib.hid h1
      have H2 := Lib.hid h2
      rw [← el]
      clear el hlt hgt h1 h2
      go_enter Tryd.func61, Tryd.ntmps61
      go_wp2
      go_loopw [5] (fun i w' => ∃ k : Nat, k ≤ (cd a).length ∧ i = .int .i64 ((k : Int) - 1) ∧ Hid ((cd a).drop k = (cd b).drop k) ∧ ∃ q, w' = w.drewN q) (fun i _ => (intOf i + 1).toNat)
      case atStart => exact ⟨(cd a).length, Nat.le_refl _, rfl, Lib.hid (by rw [List.drop_length, List.drop_eq_nil_of_le (by have := HL.out; omega)]), 0, rfl⟩
      case round =>
        obtain ⟨k1, hk, rfl, HK, q, hq⟩ := hrel
        have HQ := Lib.hid hq
        cases k1 with
        | zero =>
          have HE : Hid (a = b) := Lib.hid (by
            have := HK.out
            rw [List.drop_zero, List.drop_zero] at this
            have := congrArg dv this
            rwa [dv_cd, dv_cd] at this)
          clear hq
          go_wp2
          go_ret
          refine ⟨?_, q, HQ.out⟩
          rw [HE.out]; unfold sgn; rw [if_pos rfl]; rfl
        | succ k =>
          obtain ⟨x, hx⟩ : ∃ x, gd (cd a) k = x := ⟨_, rfl⟩
          obtain ⟨y, hy⟩ : ∃ y, gd (cd b) k = y := ⟨_, rfl⟩
          have d1 : DigA wr A1 (cd a) := by rw [hq]; exact H1.out.drewN
          have d2 : DigA wr A2 (cd b) := by rw [hq]; exact H2.out.drewN
          obtain ⟨b1, e1, _, i0⟩ := d1.at k (by omega)
          obtain ⟨b2, e2, _, i1⟩ := d2.at k (by have := HL.out; omega)
          rw [hx] at i0
          rw [hy] at i1
          subst e1 e2
          have HX := Lib.hid hx
          have HY := Lib.hid hy
          have ek : ((k + 1 : Nat) : Int) - 1 = (k : Int) := by omega
          rw [ek]
          have kl : (k : Int) < ((cd a).length : Int) := by omega
          clear hq hx hy ek d1 d2
          by_cases hxy : x = y
          · have HD : Hid ((cd a).drop k = (cd b).drop k) := Lib.hid (drop_eq HL.out k HK.out (by have hx := HX.out; have hy := HY.out; unfold gd at hx hy; rw [hx, hy, hxy]))
            subst hxy
            go_wp2
            go_quiet (fail)
            go_wp2
            go_roundw
            case rel =>
              go_light
              exact ⟨k, by omega, rfl, HD, by rw [HQ.out]; simp only [World.drewN_drewN]; exact ⟨_, rfl⟩⟩
            case measure => simp [intOf]
          · have t1 : (((x : Nat) : Int) == ((y : Nat) : Int)) = false := by rw [beq_eq_false_iff_ne]; omega
            have HXY := Lib.hid hxy
            clear hxy
            by_cases hl : x < y
            · have HS : Hid (sgn a b = -1) := Lib.hid (by
                have h := dv_less (sm_cd a) (sm_cd b) k HK.out (by have hx := HX.out; have hy := HY.out; unfold gd at hx hy; rw [hx, hy]; exact hl)
                rw [dv_cd, dv_cd] at h
                unfold sgn; rw [if_neg (by omega), if_pos (by omega)])
              have t2 : (x : Int) < (y : Int) := by omega
              clear hl
              go_wp2
              go_quiet (fail)
              go_wp2
              go_quiet (fail)
              go_wp2
              go_ret
              refine ⟨by rw [HS.out]; rfl, ?_⟩
              rw [HQ.out]
              simp only [World.drewN_drewN]
              exact ⟨_, rfl⟩
            · have HS : Hid (sgn a b = 1) := Lib.hid (by
                have h := dv_less (sm_cd b) (sm_cd a) k HK.out.symm (by have hx := HX.out; have hy := HY.out; have := HXY.out; unfold gd at hx hy; rw [hx, hy]; omega)
                rw [dv_cd, dv_cd] at h
                unfold sgn; rw [if_neg (by omega), if_neg (by omega)])
              have t2 : ¬ (x : Int) < (y : Int) := by omega
              clear hl
              go_wp2
              go_quiet (fail)
              go_wp2
              go_quiet (fail)
              go_wp2
              go_ret
              refine ⟨by rw [HS.out]; rfl, ?_⟩
              rw [HQ.out]
              simp only [World.drewN_drewN]
              exact ⟨_, rfl⟩
end Go.Proofs.YtoiofbpmgihkfaaDoor
