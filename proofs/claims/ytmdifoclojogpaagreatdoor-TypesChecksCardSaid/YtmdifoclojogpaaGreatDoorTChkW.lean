/- TypesChecks, its walk. -/
import Derived.Test.YtmdifoclojogpaaGreatDoorTRChk
import Derived.Test.YtmdifoclojogpaaGreatDoorYSen
import Derived.Test.YtmdifoclojogpaaGreatDoorYNew
namespace Go.Proofs.YtmdifoclojogpaaGreatDoor
open Go.RowKit Go.Maps

theorem tokOk_all (s : ByteArray) : TokOk (scan s).1 := by
  by_cases h : (scan s).2.2 = 0
  · exact scan_tokOk s h
  · rw [scan_fail s h]
    exact ⟨(fun t ht => by cases ht), (fun t ht => by cases ht), Nat.zero_le _⟩
theorem tokGood_all (s : ByteArray) : TokGood (scan s).1 := by
  by_cases h : (scan s).2.2 = 0
  · exact scan_tokGood s h
  · rw [scan_fail s h]
    exact ⟨(fun t ht => by cases ht), (fun t ht => by cases ht)⟩
set_option maxRecDepth 100000 in
set_option maxHeartbeats 16000000 in
theorem tchk_any (w : World) (A : Option Addr) (D n0 cap : Nat) (l0 : List Nat) (nx : Int) (good : Bool) (hr : ReadsL w D A l0) (hD : l0 ≠ [] → D < w.heap.size) (hl : l0.length = n0) (hn : n0 ≤ cap) (hcap : cap ≤ maxLen) (hs : Small l0) (hy : Syms w) (hy2 : SymY w) (hy3 : TypY w) :
    Calls Tryz.prog 4 #[.slice A n0 cap, .int .i64 nx, .bool good] w (RetX (.bool true) w) := by
  have KN1 := Lib.hid (nw_lim 60 (by decide) hr hD hl hn hcap hs w (Below.refl _ _))
  have HY := Lib.hid hy
  have HY2 := Lib.hid hy2
  have HY3 := Lib.hid hy3
  have hlt1 := hy2.lt
  have hlt2 := hy3.lt
  clear hr hD hl hn hcap hs hy hy2 hy3
  go_enter Tryz.func4, Tryz.ntmps4
  go_wp2_with fail
  go_at_call 7
  refine KN1.out.mono ?_
  rintro e w1 ⟨Da, la, rfl, hb1, hc1⟩
  have HB1 := Lib.hid hb1
  have HC1 := Lib.hid hc1
  clear hb1 hc1 KN1
  go_wp2_with fail
  go_at_call 8
  refine (cs_sentence (B := w.heap.size) (K := w.heap.size) (Nat.le_refl _) good 4 (by decide) _ w1 HC1.out).mono ?_
  rintro e w2 ⟨s, hp, rfl, hb2, _, _⟩
  have HB2 := Lib.hid (HB1.out.trans hb2)
  have hps : s.size ≤ 60000 := Nat.le_trans hp (sB_le 4 (by decide))
  clear hb2 hp HC1 HB1
  have h2 := HB2.out.size
  have K1 := Lib.hid (lx_scan s (by omega) w2 (HY.out.below HB2.out HY.out.lt))
  have K2 : Hid (∀ W, Calls Tryz.prog 19 #[.string s] W (RetRScan (scan s) W)) := Lib.hid fun W => lr_scan s (by omega) W
  have hTok := tokOk_all s
  have hGood := tokGood_all s
  obtain ⟨⟨l, ri, rc⟩, hR⟩ : ∃ R, scan s = R := ⟨_, rfl⟩
  rw [hR] at K1 hTok hGood
  rw [hR] at K2
  simp only at hTok hGood
  obtain ⟨⟨o, pi, pc⟩, hP⟩ : ∃ R, parse l = R := ⟨_, rfl⟩
  have hpl := parse_len l
  have hTro := parse_tro hGood
  have hNm := parse_names hTok
  have hlen := hTok.len
  rw [hP] at hpl hTro hNm
  simp only at hpl hTro hNm
  obtain ⟨n, hn⟩ : ∃ n, n = l.length := ⟨_, rfl⟩
  obtain ⟨m, hm⟩ : ∃ m, m = o.length := ⟨_, rfl⟩
  have hn4 : n ≤ 400 := by omega
  have hm4 : m ≤ 400 := by omega
  have HP := Lib.hid hP
  have HN := Lib.hid hn
  have HM := Lib.hid hm
  have HTO := Lib.hid hTok
  have HTr := Lib.hid hTro
  have HNm := Lib.hid hNm
  clear hTok hGood hR hP hpl hTro hNm hlen hn hm
  go_wp2_with fail
  go_at_call 15
  refine K1.out.mono ?_
  rintro e w3 ⟨A1, c1, he, hO1, hb1⟩
  have he2 : e = .returned (.tuple #[.slice A1 n c1, .int .i64 (ri : Nat), .int .i64 (rc : Nat)]) := by rw [HN.out]; exact he
  subst he2
  have hc1 : n ≤ c1 := by rw [HN.out]; exact own_le hO1
  have T1 := Lib.hid (tokR_own hO1 rfl)
  have HB3 := Lib.hid (HB2.out.trans (hb1.mono h2))
  have h3 := HB3.out.size
  clear he hO1 hb1 K1 HB2
  go_wp2_with fail
  go_at_call 19
  refine (K2.out _).mono ?_
  rintro e w4 ⟨A2, c2, he, hO2, hb2⟩
  have he2 : e = .returned (.tuple #[.slice A2 n c2, .int .i64 (ri : Nat), .int .i64 (rc : Nat)]) := by rw [HN.out]; exact he
  subst he2
  have hc2 : n ≤ c2 := by rw [HN.out]; exact own_le hO2
  have T2 := Lib.hid (tokR_own hO2 rfl)
  have T14 := Lib.hid (T1.out.below hb2)
  have HB4 := Lib.hid (HB3.out.trans (hb2.mono h3))
  have h4 := HB4.out.size
  clear he hO2 hb2 K2 T1 HB3
  have K3 := Lib.hid (py_Parse w4 A1 n c1 l HN.out.symm hc1 HTO.out T14.out.atB (HY2.out.below HB4.out hlt1))
  rw [HP.out] at K3
  go_wp2_with fail
  go_at_call 16
  refine K3.out.mono ?_
  rintro e w5 ⟨A5, c5, he, hl5, hn5, hb5⟩
  have he2 : e = .returned (.tuple #[.slice A5 m c5, .int .i64 (pi : Nat), .int .i64 (pc : Nat)]) := by rw [HM.out]; exact he
  subst he2
  have N5 := Lib.hid hn5
  have hc5 : m ≤ c5 := by rw [HM.out]; exact hl5
  have T25 := Lib.hid (T2.out.below hb5)
  have HB5 := Lib.hid (HB4.out.trans (hb5.mono h4))
  have h5 := HB5.out.size
  have K4 := Lib.hid (rp_Parse w5 A2 n c2 l HN.out.symm hc2 HTO.out T25.out.atB)
  rw [HP.out] at K4
  clear he hn5 hb5 hl5 K3 T2 T14 HB4
  go_wp2_with fail
  go_at_call 20
  refine K4.out.mono ?_
  rintro e w6 ⟨A6, c6, he, hl6, hn6, hb6⟩
  have he2 : e = .returned (.tuple #[.slice A6 m c6, .int .i64 (pi : Nat), .int .i64 (pc : Nat)]) := by rw [HM.out]; exact he
  subst he2
  have N6 := Lib.hid hn6
  have N56 := Lib.hid (N5.out.below hb6)
  have hc6 : m ≤ c6 := by rw [HM.out]; exact hl6
  have HB6 := Lib.hid (HB5.out.trans (hb6.mono h5))
  have h6 := HB6.out.size
  clear he hn6 hb6 hl6 K4 T25 HB5 N5
  have KB : Hid (∀ W, Below w.heap.size w W → Calls Tryz.prog 21 #[] W (RetX (.bool true) W)) := Lib.hid fun W hW => ty_begun W (HY.out.below hW HY.out.lt) (HY2.out.below hW hlt1) (HY3.out.below hW hlt2)
  by_cases hz : rc = 0 ∧ pc = 0
  · obtain ⟨rfl, rfl⟩ := hz
    go_wp2_with fail
    go_at_call 22
    refine (ty_some nx _).mono ?_
    rintro e w7 ⟨vs, A7, c7, n7, rfl, hn7, hc7, hn76, hvs, hvr, hb7⟩
    have HB7 := Lib.hid (HB6.out.trans (hb7.mono h6))
    have h7 := HB7.out.size
    have HVL : Hid (vs.length = n7) := Lib.hid hn7.symm
    have HVR := Lib.hid hvr
    have M7 := Lib.hid (N56.out.below hb7)
    have R7 := Lib.hid (N6.out.below hb7)
    have KC0 := ty_Check w7 A5 A7 m c5 n7 c7 o vs HM.out.symm hc5 (by omega) M7.out HTr.out HNm.out HVL.out hc7 (by omega) hvr hvs (HY3.out.below HB7.out hlt2)
    obtain ⟨⟨ci, cc⟩, hC⟩ : ∃ R, chk o vs = R := ⟨_, rfl⟩
    rw [hC] at KC0
    have KC := Lib.hid KC0
    have HC := Lib.hid hC
    clear KC0 hC hb7 hn7 hvs hvr
    go_wp2_with fail
    go_at_call 23
    refine KC.out.mono ?_
    rintro e w8 ⟨he, hb8⟩
    have he2 : e = .returned (.tuple #[.int .i64 (ci : Nat), .int .i64 (cc : Nat)]) := he
    subst he2
    have HB8 := Lib.hid (HB7.out.trans (hb8.mono h7))
    have h8 := HB8.out.size
    have R8 := Lib.hid (R7.out.below hb8)
    have KV := Lib.hid (tr_vars w8 A7 n7 c7 vs HVL.out hc7 (by omega) (HVR.out.below hb8))
    clear he hb8 KC
    go_wp2_with fail
    go_at_call 25
    refine KV.out.mono ?_
    rintro e w9 ⟨A9, c9, he, hc9, hv9, hb9⟩
    have he2 : e = .returned (.slice A9 n7 c9) := by rw [he, HVL.out]
    subst he2
    have hc9' : n7 ≤ c9 := by rw [← HVL.out]; exact hc9
    have HB9 := Lib.hid (HB8.out.trans (hb9.mono h8))
    have h9 := HB9.out.size
    have KD0 := tr_Check w9 A6 A9 m c6 n7 c9 o vs HM.out.symm hc6 (by omega) (R8.out.below hb9) HTr.out HVL.out hc9' (by omega) hv9
    rw [HC.out] at KD0
    have KD := Lib.hid KD0
    clear KD0 he hb9 KV hc9 hv9
    go_wp2_with fail
    go_at_call 24
    refine KD.out.mono ?_
    rintro e w10 ⟨he, hb10⟩
    have he2 : e = .returned (.tuple #[.int .i64 (ci : Nat), .int .i64 (cc : Nat)]) := he
    subst he2
    have HB10 := Lib.hid (HB9.out.trans (hb10.mono h9))
    clear he hb10 KD
    go_wp2_with fail
    go_at_call 21
    refine (KB.out _ HB10.out).mono ?_
    rintro e wz ⟨rfl, hbz⟩
    have HBZ := Lib.hid (HB10.out.trans (hbz.mono HB10.out.size))
    clear hbz
    go_wp2_with fail
    go_ret
    exact ⟨by first | rfl | simp, HBZ.out⟩
  · by_cases hz1 : rc = 0
    · subst hz1
      have hpc : ¬ pc = 0 := fun e => hz ⟨rfl, e⟩
      have hpcI : ((pc : Int) != 0) = true := by simp; omega
      have hpcJ : ¬ (pc : Int) = 0 := by omega
      clear hz
      go_wp2_with fail
      go_at_call 21
      refine (KB.out _ HB6.out).mono ?_
      rintro e wz ⟨rfl, hbz⟩
      have HBZ := Lib.hid (HB6.out.trans (hbz.mono h6))
      clear hbz
      go_wp2_with fail
      go_ret
      exact ⟨by first | rfl | simp, HBZ.out⟩
    · have hrcI : ((rc : Int) != 0) = true := by simp; omega
      have hrcJ : ¬ (rc : Int) = 0 := by omega
      clear hz
      go_wp2_with fail
      go_at_call 21
      refine (KB.out _ HB6.out).mono ?_
      rintro e wz ⟨rfl, hbz⟩
      have HBZ := Lib.hid (HB6.out.trans (hbz.mono h6))
      clear hbz
      go_wp2_with fail
      go_ret
      exact ⟨by first | rfl | simp, HBZ.out⟩
end Go.Proofs.YtmdifoclojogpaaGreatDoor
