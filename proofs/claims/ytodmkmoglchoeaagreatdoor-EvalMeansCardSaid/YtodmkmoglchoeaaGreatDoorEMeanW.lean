/- EvalMeans, its walk. -/
import Derived.Test.YtodmkmoglchoeaaGreatDoorEBeg
import Derived.Test.YtodmkmoglchoeaaGreatDoorERefT
import Derived.Test.YtodmkmoglchoeaaGreatDoorTRCmp
import Derived.Test.YtodmkmoglchoeaaGreatDoorYSen
import Derived.Test.YtodmkmoglchoeaaGreatDoorYNew
namespace Go.Proofs.YtodmkmoglchoeaaGreatDoor
open Go.RowKit Go.Maps

set_option maxRecDepth 100000 in
set_option maxHeartbeats 16000000 in
theorem emean_any (w : World) (A : Option Addr) (D n0 cap : Nat) (l0 : List Nat) (B : Option Addr) (n cb : Nat) (f : Nat → Nat) (hr : ReadsL w D A l0) (hD : l0 ≠ [] → D < w.heap.size) (hl : l0.length = n0) (hn : n0 ≤ cap) (hcap : cap ≤ maxLen) (hs : Small l0) (hc : n ≤ cb) (hf : ∀ i, f i < 2 ^ 128) (hA : ValsB w B n f) (hy : Syms w) (hy2 : SymY w) (hy3 : TypY w) :
    Calls Tryz.prog 5 #[.slice A n0 cap, .slice B n cb] w (RetX (.bool true) w) := by
  have KN60 : Hid (∀ W, Below w.heap.size w W → Calls Tryz.prog 7 #[.slice A n0 cap, .int .i64 60] W (RetNw W)) := Lib.hid fun W hW => nw_lim 60 (by decide) hr hD hl hn hcap hs W hW
  have KB := Lib.hid (lb_bound w B n cb f hc hf hA)
  obtain ⟨g, hg⟩ : ∃ g : Nat → Nat, g = fun i => if i < n then f i else 0 := ⟨_, rfl⟩
  rw [← hg] at KB
  have KBg : Hid (∀ W, Below w.heap.size w W → Calls Tryz.prog 14 #[] W (RetX (.bool true) W)) := Lib.hid fun W hW => eb_begun W (hy.below hW hy.lt) (hy2.below hW hy2.lt) (hy3.below hW hy3.lt)
  have HY1 := Lib.hid hy
  have HY2 := Lib.hid hy2
  have HY3 := Lib.hid hy3
  clear hr hD hl hn hcap hs hy hy2 hy3 hf hA hg
  go_enter Tryz.func5, Tryz.ntmps5
  go_wp2_with fail
  go_at_call 20
  refine KB.out.mono ?_
  rintro e w1 ⟨A1, c1, A2, c2, A3, c3, A4, c4, rfl, h1, h2, h3, h4, hv1, hv2, hb3, hb4, hb⟩
  have HB1 := Lib.hid hb
  have HV1 := Lib.hid hv1
  have HV2 := Lib.hid hv2
  have HI3 := Lib.hid hb3
  have HI4 := Lib.hid hb4
  have hs1 := hb.size
  clear hv1 hv2 hb3 hb4 hb KB
  go_wp2_with fail
  go_at_call 7
  refine (KN60.out w1 HB1.out).mono ?_
  rintro e w2 ⟨Da, la, rfl, hb2, hc2⟩
  have HB2 := Lib.hid hb2
  have HC2 := Lib.hid hc2
  clear hb2 hc2 KN60
  go_wp2_with fail
  go_at_call 10
  refine (cs_sentence (B := w1.heap.size) (K := w1.heap.size) (Nat.le_refl _) true 4 (by decide) _ w2 HC2.out).mono ?_
  rintro e w3 ⟨s, hp3, rfl, hb3, _, _⟩
  have HB13 := Lib.hid (HB2.out.trans hb3)
  have HB3 := Lib.hid (HB1.out.trans (HB13.out.mono hs1))
  have hps : s.size ≤ 60000 := Nat.le_trans hp3 (sB_le 4 (by decide))
  have hs3 := HB3.out.size
  clear hb3 hp3 HC2 HB2
  obtain ⟨code, hcode⟩ : ∃ k, k = (cmpl s vars7).2 := ⟨_, rfl⟩
  obtain ⟨m, hm⟩ : ∃ m, m = (cmpl s vars7).1.length := ⟨_, rfl⟩
  have hl4 := cmpl_len s vars7
  rw [← hm] at hl4
  have KC := Lib.hid (ty_Compile w3 s (by omega) A1 7 c1 vars7 rfl h1 (by omega) (HV1.out.below HB13.out) vars7_S (HY1.out.below HB3.out HY1.out.lt) (HY2.out.below HB3.out HY2.out.lt) (HY3.out.below HB3.out HY3.out.lt))
  go_wp2_with fail
  go_at_call 21
  refine KC.out.mono ?_
  rintro e w4 ⟨A5, c5, rfl, _, h5, hN5, hb4⟩
  rw [← hcode, ← hm]
  rw [← hm] at h5
  have HN5 := Lib.hid hN5
  have HB4 := Lib.hid (HB3.out.trans (hb4.mono hs3))
  have HB14 := Lib.hid (HB13.out.trans (hb4.mono HB13.out.size))
  have hs4 := HB4.out.size
  clear hb4 hN5 KC HB13
  have KR := Lib.hid (tr_Compile w4 s (by omega) A2 7 c2 vars7 rfl h2 (by omega) (HV2.out.below HB14.out))
  go_wp2_with fail
  go_at_call 22
  refine KR.out.mono ?_
  rintro e w5 ⟨A6, c6, rfl, _, h6, hN6, hb5⟩
  rw [← hcode, ← hm]
  rw [← hm] at h6
  have HN6 := Lib.hid hN6
  have HN5' := Lib.hid (HN5.out.below hb5)
  have HB5 := Lib.hid (HB4.out.trans (hb5.mono hs4))
  have HB15 := Lib.hid (HB14.out.trans (hb5.mono HB14.out.size))
  have hs5 := HB5.out.size
  clear hb5 hN6 KR HB14 HN5
  by_cases hz : code = 0
  · have hz2 : (cmpl s vars7).2 = 0 := by omega
    have hp := cmpl_pos s vars7 hz2
    have HOK := Lib.hid (cmpl_ok s vars7 (fun v hv => by have := vars7_sz v hv; unfold maxLen; omega) hz2)
    have KH := Lib.hid (ev_Holds w5 A5 m c5 (cmpl s vars7).1 hm.symm (by omega) h5 hl4 HN5'.out HOK.out A3 7 c3 (bnds g 7) (bnds_len g 7) h3 (by omega) (HI3.out.below HB15.out) (cmpl_rg (envB_rg _) s vars7 hz2))
    have KR : Hid (∀ W, Below w5.heap.size w5 W → Calls Tryz.prog 24 #[.slice A6 m c6, .slice A4 7 c4] W (RetX (.bool (hldN (envB (bnds g 7)) (cmpl s vars7).1)) W)) := Lib.hid fun W hW =>
      rf_Holds W s vars7 hz2 HOK.out ⟨hm.symm, hl4, h6, HN6.out.below hW, bnds_len g 7, h4, by omega, HI4.out.below (HB15.out.trans (hW.mono HB15.out.size))⟩
    generalize hldN (envB (bnds g 7)) (cmpl s vars7).1 = r at KH KR
    subst hz
    clear hcode hm hz2 HOK HN5' HN6 HI3 HI4 HV1 HV2 HB15 hp
    go_wp2_with fail
    go_at_call 23
    refine KH.out.mono ?_
    rintro e w6 ⟨rfl, hb6⟩
    have HB6 := Lib.hid (HB5.out.trans (hb6.mono hs5))
    have KR6 := Lib.hid (KR.out w6 hb6)
    clear hb6 KH KR
    go_wp2_with fail
    go_at_call 24
    refine KR6.out.mono ?_
    rintro e w7 ⟨rfl, hb7⟩
    have HB7 := Lib.hid (HB6.out.trans (hb7.mono HB6.out.size))
    clear hb7 KR6
    cases r
    all_goals
      go_wp2_with fail
      go_at_call 14
      refine (KBg.out w7 HB7.out).mono ?_
      rintro e w8 ⟨rfl, hb8⟩
      have HB8 := Lib.hid (HB7.out.trans (hb8.mono HB7.out.size))
      clear hb8
      go_wp2_with fail
      go_ret
      exact ⟨rfl, HB8.out⟩
  · have hzI : ¬ (code : Int) = 0 := by omega
    clear hcode hm HN5' HN6 HI3 HI4 HV1 HV2 HB15
    go_wp2_with fail
    go_at_call 14
    refine (KBg.out w5 HB5.out).mono ?_
    rintro e w8 ⟨rfl, hb8⟩
    have HB8 := Lib.hid (HB5.out.trans (hb8.mono HB5.out.size))
    clear hb8
    go_wp2_with fail
    go_ret
    exact ⟨rfl, HB8.out⟩
end Go.Proofs.YtodmkmoglchoeaaGreatDoor
