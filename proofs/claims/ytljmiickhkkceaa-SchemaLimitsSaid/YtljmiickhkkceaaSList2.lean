/- Lists that are written: instances of the generic function. -/
import Derived.Test.YtljmiickhkkceaaJSWr
namespace Go.Proofs.Ytljmiickhkkceaa
open Go.RowKit

section
variable {C K Y X B : Nat} {w : World} {s : WS} {b o : Nat}
set_option maxRecDepth 100000 in
set_option maxHeartbeats 1000000 in
theorem lheader_any (f : HeaderD → WS → WS) (G : Nat) (hG : Adds f G)
    (hE : ∀ (w : World) (s : WS) (eb eo : Nat) (x : HeaderD), Set3 HeaderV C K Y X B w s eb eo x → s.l.length + G ≤ 2000000 → Calls Try.prog 49 #[.pointer (some ⟨K, 0, none⟩), .pointer (some ⟨eb, eo, none⟩)] w (Wrote X B (f x s) w))
    (xs : List HeaderD) (most : Nat) (hm : most ≤ 65535) (h : Set3 (SlV 3 HeaderV) C K Y X B w s b o xs) (hl : s.l.length + (2 + most * G) ≤ 2000000) :
    Calls Try.prog 48 #[.pointer (some ⟨K, 0, none⟩), .pointer (some ⟨b, o, none⟩), .int .i64 most, .func (Fn.func 49) #[.pointer (some ⟨K, 0, none⟩)] #[]] w (Wrote X B (pList most f xs s) w) := by
  obtain ⟨v, hv⟩ := h.wr
  obtain ⟨_, cs, hc, v0, rfl, hr⟩ := h.lies
  have hr0 := hr
  obtain ⟨A, n, cap, rfl, hn, hnc, hcm, _⟩ := hr
  have c0 := hc.one
  have k5 := h.cod.k5
  have hlt := lies_lt h
  have hC := h.cod.hC
  have hX := hv.lt
  unfold maxLen at hcm
  by_cases hov : most < xs.length
  · rw [pList_over hov]
    have hnm : most < n := by have := hn.out; omega
    have HW := Lib.hid hv.drew
    have HT := Lib.hid hlt
    clear h hv hc hr0 hlt hov hl hE hG hm hn
    go_enter Try.func48, Try.ntmps48
    go_wp2
    go_still_tail 9, (by kernel_rfl)
    change wpList _ _ _ _ _ w.drew
    go_wp2_with (go_at_call 45; refine (count_over n most hnm (by omega) HW.out).mono ?_; rintro e w1 ⟨rfl, hv1, hf1⟩; have c1 := (hf1.cell HT.out.1 HT.out.2).trans c0)
    refine wp_loop_rounds 1 ?_
    rw [rounds_succ]
    go_wp2
    go_end0
    exact ⟨rfl, hv1, (Fr.refl _ _ _).drew.trans hf1⟩
  · have hov' : xs.length ≤ most := by omega
    rw [pList_in hov']
    have hnm : n ≤ most := by have := hn.out; omega
    have hGm : ∀ q, q ≤ n → s.l.length + 2 + q * G ≤ 2000000 := fun q hq => by have := Nat.mul_le_mul_right G (Nat.le_trans hq hnm); omega
    have h0n : 0 ≤ (n : Int) := by omega
    have HW := Lib.hid hv.drew
    have HT := Lib.hid hlt
    have HS := Lib.hid h
    have HR := Lib.hid hr0
    have HG := Lib.hid hGm
    have HA := Lib.hid hG
    have HE := Lib.hid hE
    clear h hv hc hr0 hlt hov hl hE hG hGm hov'
    go_enter Try.func48, Try.ntmps48
    go_wp2
    go_still_tail 9, (by kernel_rfl)
    change wpList _ _ _ _ _ w.drew
    go_wp2_with (go_at_call 45; refine (count_in n most hnm hm HW.out (by have := HG.out 0 (by omega); omega)).mono ?_; rintro e w1 ⟨rfl, hv1, hf1⟩; have c1 := (hf1.cell HT.out.1 HT.out.2).trans c0)
    have hf0 : Fr X B w w1 := (Fr.refl _ _ _).drew.trans hf1
    have HV1 := Lib.hid hv1
    have HF1 := Lib.hid hf0
    clear hv1 hf1 hf0
    go_loopw [31] (fun i W => ∃ q : Nat, q ≤ n ∧ i = .int .i64 q ∧ Fr X B w W ∧ ∃ v, WrAt X B W (runL f xs (wAdd ([] ++ encU n 2) s) q) v) (fun i _ => n - (intOf i).toNat)
    case atStart => exact ⟨0, by omega, rfl, HF1.out, HV1.out⟩
    case round =>
      obtain ⟨q, hq, rfl, hF, hV⟩ := hrel
      have cq : wr.cell? ⟨b, o, none⟩ = some (.slice A n cap) := (hF.cell HT.out.1 HT.out.2).trans c0
      have HF := Lib.hid hF
      have HV := Lib.hid hV
      clear hF hV
      by_cases hqn : q < n
      · have hqn' : (q : Int) < (n : Int) := by omega
        have hq0 : 0 ≤ (q : Int) := by omega
        obtain ⟨eb, eo, rfl, x, hx, hL⟩ := row_at HR.out (q := q) (by have := hn.out; omega)
        have hlen := runL_len HA.out xs (wAdd ([] ++ encU n 2) s) q
        have hlen2 := HG.out (q + 1) hqn
        have hlen3 : (wAdd ([] ++ encU n 2) s).l.length = s.l.length + 2 := by simp [wAdd_len, encU_len]
        rw [Nat.add_mul] at hlen2
        have hS : Set3 HeaderV C K Y X B wr (runL f xs (wAdd ([] ++ encU n 2) s) q) eb (eo + q * 3) x := ⟨HS.out.cod.kept HF.out, HV.out, hL.below kept_header (HF.out.below hC hX), by omega⟩
        have HC := Lib.hid (HE.out wr _ _ _ x hS (by omega))
        have HX := Lib.hid (runL_succ f (wAdd ([] ++ encU n 2) s) hx)
        clear hlen hlen2 hlen3 hS hL hx
        go_wp2_with (go_at_call 49; refine HC.out.mono ?_; rintro e w2 ⟨rfl, hv2, hf2⟩)
        go_roundw
        case rel => exact ⟨q + 1, by omega, by simp, HF.out.trans hf2, by rw [HX.out]; exact hv2⟩
        case measure => simp [intOf]; omega
      · obtain rfl : q = n := by omega
        go_wp2
        go_end0
        exact ⟨rfl, by rw [← hn.out]; exact HV.out, HF.out⟩
set_option maxRecDepth 100000 in
set_option maxHeartbeats 1000000 in
theorem lstate_any (f : StateD → WS → WS) (G : Nat) (hG : Adds f G)
    (hE : ∀ (w : World) (s : WS) (eb eo : Nat) (x : StateD), Set3 StateV C K Y X B w s eb eo x → s.l.length + G ≤ 2000000 → Calls Try.prog 51 #[.pointer (some ⟨K, 0, none⟩), .pointer (some ⟨eb, eo, none⟩)] w (Wrote X B (f x s) w))
    (xs : List StateD) (most : Nat) (hm : most ≤ 65535) (h : Set3 (SlV 5 StateV) C K Y X B w s b o xs) (hl : s.l.length + (2 + most * G) ≤ 2000000) :
    Calls Try.prog 50 #[.pointer (some ⟨K, 0, none⟩), .pointer (some ⟨b, o, none⟩), .int .i64 most, .func (Fn.func 51) #[.pointer (some ⟨K, 0, none⟩)] #[]] w (Wrote X B (pList most f xs s) w) := by
  obtain ⟨v, hv⟩ := h.wr
  obtain ⟨_, cs, hc, v0, rfl, hr⟩ := h.lies
  have hr0 := hr
  obtain ⟨A, n, cap, rfl, hn, hnc, hcm, _⟩ := hr
  have c0 := hc.one
  have k5 := h.cod.k5
  have hlt := lies_lt h
  have hC := h.cod.hC
  have hX := hv.lt
  unfold maxLen at hcm
  by_cases hov : most < xs.length
  · rw [pList_over hov]
    have hnm : most < n := by have := hn.out; omega
    have HW := Lib.hid hv.drew
    have HT := Lib.hid hlt
    clear h hv hc hr0 hlt hov hl hE hG hm hn
    go_enter Try.func50, Try.ntmps50
    go_wp2
    go_still_tail 9, (by kernel_rfl)
    change wpList _ _ _ _ _ w.drew
    go_wp2_with (go_at_call 45; refine (count_over n most hnm (by omega) HW.out).mono ?_; rintro e w1 ⟨rfl, hv1, hf1⟩; have c1 := (hf1.cell HT.out.1 HT.out.2).trans c0)
    refine wp_loop_rounds 1 ?_
    rw [rounds_succ]
    go_wp2
    go_end0
    exact ⟨rfl, hv1, (Fr.refl _ _ _).drew.trans hf1⟩
  · have hov' : xs.length ≤ most := by omega
    rw [pList_in hov']
    have hnm : n ≤ most := by have := hn.out; omega
    have hGm : ∀ q, q ≤ n → s.l.length + 2 + q * G ≤ 2000000 := fun q hq => by have := Nat.mul_le_mul_right G (Nat.le_trans hq hnm); omega
    have h0n : 0 ≤ (n : Int) := by omega
    have HW := Lib.hid hv.drew
    have HT := Lib.hid hlt
    have HS := Lib.hid h
    have HR := Lib.hid hr0
    have HG := Lib.hid hGm
    have HA := Lib.hid hG
    have HE := Lib.hid hE
    clear h hv hc hr0 hlt hov hl hE hG hGm hov'
    go_enter Try.func50, Try.ntmps50
    go_wp2
    go_still_tail 9, (by kernel_rfl)
    change wpList _ _ _ _ _ w.drew
    go_wp2_with (go_at_call 45; refine (count_in n most hnm hm HW.out (by have := HG.out 0 (by omega); omega)).mono ?_; rintro e w1 ⟨rfl, hv1, hf1⟩; have c1 := (hf1.cell HT.out.1 HT.out.2).trans c0)
    have hf0 : Fr X B w w1 := (Fr.refl _ _ _).drew.trans hf1
    have HV1 := Lib.hid hv1
    have HF1 := Lib.hid hf0
    clear hv1 hf1 hf0
    go_loopw [31] (fun i W => ∃ q : Nat, q ≤ n ∧ i = .int .i64 q ∧ Fr X B w W ∧ ∃ v, WrAt X B W (runL f xs (wAdd ([] ++ encU n 2) s) q) v) (fun i _ => n - (intOf i).toNat)
    case atStart => exact ⟨0, by omega, rfl, HF1.out, HV1.out⟩
    case round =>
      obtain ⟨q, hq, rfl, hF, hV⟩ := hrel
      have cq : wr.cell? ⟨b, o, none⟩ = some (.slice A n cap) := (hF.cell HT.out.1 HT.out.2).trans c0
      have HF := Lib.hid hF
      have HV := Lib.hid hV
      clear hF hV
      by_cases hqn : q < n
      · have hqn' : (q : Int) < (n : Int) := by omega
        have hq0 : 0 ≤ (q : Int) := by omega
        obtain ⟨eb, eo, rfl, x, hx, hL⟩ := row_at HR.out (q := q) (by have := hn.out; omega)
        have hlen := runL_len HA.out xs (wAdd ([] ++ encU n 2) s) q
        have hlen2 := HG.out (q + 1) hqn
        have hlen3 : (wAdd ([] ++ encU n 2) s).l.length = s.l.length + 2 := by simp [wAdd_len, encU_len]
        rw [Nat.add_mul] at hlen2
        have hS : Set3 StateV C K Y X B wr (runL f xs (wAdd ([] ++ encU n 2) s) q) eb (eo + q * 5) x := ⟨HS.out.cod.kept HF.out, HV.out, hL.below kept_state (HF.out.below hC hX), by omega⟩
        have HC := Lib.hid (HE.out wr _ _ _ x hS (by omega))
        have HX := Lib.hid (runL_succ f (wAdd ([] ++ encU n 2) s) hx)
        clear hlen hlen2 hlen3 hS hL hx
        go_wp2_with (go_at_call 51; refine HC.out.mono ?_; rintro e w2 ⟨rfl, hv2, hf2⟩)
        go_roundw
        case rel => exact ⟨q + 1, by omega, by simp, HF.out.trans hf2, by rw [HX.out]; exact hv2⟩
        case measure => simp [intOf]; omega
      · obtain rfl : q = n := by omega
        go_wp2
        go_end0
        exact ⟨rfl, by rw [← hn.out]; exact HV.out, HF.out⟩
set_option maxRecDepth 100000 in
set_option maxHeartbeats 1000000 in
theorem laction_any (f : ActionD → WS → WS) (G : Nat) (hG : Adds f G)
    (hE : ∀ (w : World) (s : WS) (eb eo : Nat) (x : ActionD), Set3 ActionV C K Y X B w s eb eo x → s.l.length + G ≤ 2000000 → Calls Try.prog 53 #[.pointer (some ⟨K, 0, none⟩), .pointer (some ⟨eb, eo, none⟩)] w (Wrote X B (f x s) w))
    (xs : List ActionD) (most : Nat) (hm : most ≤ 65535) (h : Set3 (SlV 5 ActionV) C K Y X B w s b o xs) (hl : s.l.length + (2 + most * G) ≤ 2000000) :
    Calls Try.prog 52 #[.pointer (some ⟨K, 0, none⟩), .pointer (some ⟨b, o, none⟩), .int .i64 most, .func (Fn.func 53) #[.pointer (some ⟨K, 0, none⟩)] #[]] w (Wrote X B (pList most f xs s) w) := by
  obtain ⟨v, hv⟩ := h.wr
  obtain ⟨_, cs, hc, v0, rfl, hr⟩ := h.lies
  have hr0 := hr
  obtain ⟨A, n, cap, rfl, hn, hnc, hcm, _⟩ := hr
  have c0 := hc.one
  have k5 := h.cod.k5
  have hlt := lies_lt h
  have hC := h.cod.hC
  have hX := hv.lt
  unfold maxLen at hcm
  by_cases hov : most < xs.length
  · rw [pList_over hov]
    have hnm : most < n := by have := hn.out; omega
    have HW := Lib.hid hv.drew
    have HT := Lib.hid hlt
    clear h hv hc hr0 hlt hov hl hE hG hm hn
    go_enter Try.func52, Try.ntmps52
    go_wp2
    go_still_tail 9, (by kernel_rfl)
    change wpList _ _ _ _ _ w.drew
    go_wp2_with (go_at_call 45; refine (count_over n most hnm (by omega) HW.out).mono ?_; rintro e w1 ⟨rfl, hv1, hf1⟩; have c1 := (hf1.cell HT.out.1 HT.out.2).trans c0)
    refine wp_loop_rounds 1 ?_
    rw [rounds_succ]
    go_wp2
    go_end0
    exact ⟨rfl, hv1, (Fr.refl _ _ _).drew.trans hf1⟩
  · have hov' : xs.length ≤ most := by omega
    rw [pList_in hov']
    have hnm : n ≤ most := by have := hn.out; omega
    have hGm : ∀ q, q ≤ n → s.l.length + 2 + q * G ≤ 2000000 := fun q hq => by have := Nat.mul_le_mul_right G (Nat.le_trans hq hnm); omega
    have h0n : 0 ≤ (n : Int) := by omega
    have HW := Lib.hid hv.drew
    have HT := Lib.hid hlt
    have HS := Lib.hid h
    have HR := Lib.hid hr0
    have HG := Lib.hid hGm
    have HA := Lib.hid hG
    have HE := Lib.hid hE
    clear h hv hc hr0 hlt hov hl hE hG hGm hov'
    go_enter Try.func52, Try.ntmps52
    go_wp2
    go_still_tail 9, (by kernel_rfl)
    change wpList _ _ _ _ _ w.drew
    go_wp2_with (go_at_call 45; refine (count_in n most hnm hm HW.out (by have := HG.out 0 (by omega); omega)).mono ?_; rintro e w1 ⟨rfl, hv1, hf1⟩; have c1 := (hf1.cell HT.out.1 HT.out.2).trans c0)
    have hf0 : Fr X B w w1 := (Fr.refl _ _ _).drew.trans hf1
    have HV1 := Lib.hid hv1
    have HF1 := Lib.hid hf0
    clear hv1 hf1 hf0
    go_loopw [31] (fun i W => ∃ q : Nat, q ≤ n ∧ i = .int .i64 q ∧ Fr X B w W ∧ ∃ v, WrAt X B W (runL f xs (wAdd ([] ++ encU n 2) s) q) v) (fun i _ => n - (intOf i).toNat)
    case atStart => exact ⟨0, by omega, rfl, HF1.out, HV1.out⟩
    case round =>
      obtain ⟨q, hq, rfl, hF, hV⟩ := hrel
      have cq : wr.cell? ⟨b, o, none⟩ = some (.slice A n cap) := (hF.cell HT.out.1 HT.out.2).trans c0
      have HF := Lib.hid hF
      have HV := Lib.hid hV
      clear hF hV
      by_cases hqn : q < n
      · have hqn' : (q : Int) < (n : Int) := by omega
        have hq0 : 0 ≤ (q : Int) := by omega
        obtain ⟨eb, eo, rfl, x, hx, hL⟩ := row_at HR.out (q := q) (by have := hn.out; omega)
        have hlen := runL_len HA.out xs (wAdd ([] ++ encU n 2) s) q
        have hlen2 := HG.out (q + 1) hqn
        have hlen3 : (wAdd ([] ++ encU n 2) s).l.length = s.l.length + 2 := by simp [wAdd_len, encU_len]
        rw [Nat.add_mul] at hlen2
        have hS : Set3 ActionV C K Y X B wr (runL f xs (wAdd ([] ++ encU n 2) s) q) eb (eo + q * 5) x := ⟨HS.out.cod.kept HF.out, HV.out, hL.below kept_action (HF.out.below hC hX), by omega⟩
        have HC := Lib.hid (HE.out wr _ _ _ x hS (by omega))
        have HX := Lib.hid (runL_succ f (wAdd ([] ++ encU n 2) s) hx)
        clear hlen hlen2 hlen3 hS hL hx
        go_wp2_with (go_at_call 53; refine HC.out.mono ?_; rintro e w2 ⟨rfl, hv2, hf2⟩)
        go_roundw
        case rel => exact ⟨q + 1, by omega, by simp, HF.out.trans hf2, by rw [HX.out]; exact hv2⟩
        case measure => simp [intOf]; omega
      · obtain rfl : q = n := by omega
        go_wp2
        go_end0
        exact ⟨rfl, by rw [← hn.out]; exact HV.out, HF.out⟩
set_option maxRecDepth 100000 in
set_option maxHeartbeats 1000000 in
theorem ltable_any (f : TableD → WS → WS) (G : Nat) (hG : Adds f G)
    (hE : ∀ (w : World) (s : WS) (eb eo : Nat) (x : TableD), Set3 TableV C K Y X B w s eb eo x → s.l.length + G ≤ 2000000 → Calls Try.prog 55 #[.pointer (some ⟨K, 0, none⟩), .pointer (some ⟨eb, eo, none⟩)] w (Wrote X B (f x s) w))
    (xs : List TableD) (most : Nat) (hm : most ≤ 65535) (h : Set3 (SlV 8 TableV) C K Y X B w s b o xs) (hl : s.l.length + (2 + most * G) ≤ 2000000) :
    Calls Try.prog 54 #[.pointer (some ⟨K, 0, none⟩), .pointer (some ⟨b, o, none⟩), .int .i64 most, .func (Fn.func 55) #[.pointer (some ⟨K, 0, none⟩)] #[]] w (Wrote X B (pList most f xs s) w) := by
  obtain ⟨v, hv⟩ := h.wr
  obtain ⟨_, cs, hc, v0, rfl, hr⟩ := h.lies
  have hr0 := hr
  obtain ⟨A, n, cap, rfl, hn, hnc, hcm, _⟩ := hr
  have c0 := hc.one
  have k5 := h.cod.k5
  have hlt := lies_lt h
  have hC := h.cod.hC
  have hX := hv.lt
  unfold maxLen at hcm
  by_cases hov : most < xs.length
  · rw [pList_over hov]
    have hnm : most < n := by have := hn.out; omega
    have HW := Lib.hid hv.drew
    have HT := Lib.hid hlt
    clear h hv hc hr0 hlt hov hl hE hG hm hn
    go_enter Try.func54, Try.ntmps54
    go_wp2
    go_still_tail 9, (by kernel_rfl)
    change wpList _ _ _ _ _ w.drew
    go_wp2_with (go_at_call 45; refine (count_over n most hnm (by omega) HW.out).mono ?_; rintro e w1 ⟨rfl, hv1, hf1⟩; have c1 := (hf1.cell HT.out.1 HT.out.2).trans c0)
    refine wp_loop_rounds 1 ?_
    rw [rounds_succ]
    go_wp2
    go_end0
    exact ⟨rfl, hv1, (Fr.refl _ _ _).drew.trans hf1⟩
  · have hov' : xs.length ≤ most := by omega
    rw [pList_in hov']
    have hnm : n ≤ most := by have := hn.out; omega
    have hGm : ∀ q, q ≤ n → s.l.length + 2 + q * G ≤ 2000000 := fun q hq => by have := Nat.mul_le_mul_right G (Nat.le_trans hq hnm); omega
    have h0n : 0 ≤ (n : Int) := by omega
    have HW := Lib.hid hv.drew
    have HT := Lib.hid hlt
    have HS := Lib.hid h
    have HR := Lib.hid hr0
    have HG := Lib.hid hGm
    have HA := Lib.hid hG
    have HE := Lib.hid hE
    clear h hv hc hr0 hlt hov hl hE hG hGm hov'
    go_enter Try.func54, Try.ntmps54
    go_wp2
    go_still_tail 9, (by kernel_rfl)
    change wpList _ _ _ _ _ w.drew
    go_wp2_with (go_at_call 45; refine (count_in n most hnm hm HW.out (by have := HG.out 0 (by omega); omega)).mono ?_; rintro e w1 ⟨rfl, hv1, hf1⟩; have c1 := (hf1.cell HT.out.1 HT.out.2).trans c0)
    have hf0 : Fr X B w w1 := (Fr.refl _ _ _).drew.trans hf1
    have HV1 := Lib.hid hv1
    have HF1 := Lib.hid hf0
    clear hv1 hf1 hf0
    go_loopw [31] (fun i W => ∃ q : Nat, q ≤ n ∧ i = .int .i64 q ∧ Fr X B w W ∧ ∃ v, WrAt X B W (runL f xs (wAdd ([] ++ encU n 2) s) q) v) (fun i _ => n - (intOf i).toNat)
    case atStart => exact ⟨0, by omega, rfl, HF1.out, HV1.out⟩
    case round =>
      obtain ⟨q, hq, rfl, hF, hV⟩ := hrel
      have cq : wr.cell? ⟨b, o, none⟩ = some (.slice A n cap) := (hF.cell HT.out.1 HT.out.2).trans c0
      have HF := Lib.hid hF
      have HV := Lib.hid hV
      clear hF hV
      by_cases hqn : q < n
      · have hqn' : (q : Int) < (n : Int) := by omega
        have hq0 : 0 ≤ (q : Int) := by omega
        obtain ⟨eb, eo, rfl, x, hx, hL⟩ := row_at HR.out (q := q) (by have := hn.out; omega)
        have hlen := runL_len HA.out xs (wAdd ([] ++ encU n 2) s) q
        have hlen2 := HG.out (q + 1) hqn
        have hlen3 : (wAdd ([] ++ encU n 2) s).l.length = s.l.length + 2 := by simp [wAdd_len, encU_len]
        rw [Nat.add_mul] at hlen2
        have hS : Set3 TableV C K Y X B wr (runL f xs (wAdd ([] ++ encU n 2) s) q) eb (eo + q * 8) x := ⟨HS.out.cod.kept HF.out, HV.out, hL.below kept_table (HF.out.below hC hX), by omega⟩
        have HC := Lib.hid (HE.out wr _ _ _ x hS (by omega))
        have HX := Lib.hid (runL_succ f (wAdd ([] ++ encU n 2) s) hx)
        clear hlen hlen2 hlen3 hS hL hx
        go_wp2_with (go_at_call 55; refine HC.out.mono ?_; rintro e w2 ⟨rfl, hv2, hf2⟩)
        go_roundw
        case rel => exact ⟨q + 1, by omega, by simp, HF.out.trans hf2, by rw [HX.out]; exact hv2⟩
        case measure => simp [intOf]; omega
      · obtain rfl : q = n := by omega
        go_wp2
        go_end0
        exact ⟨rfl, by rw [← hn.out]; exact HV.out, HF.out⟩
end
end Go.Proofs.Ytljmiickhkkceaa
