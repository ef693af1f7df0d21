/- SyntaxBack, its walk. -/
import Derived.Test.YtmdifoclojogpaaGreatDoorRFmt3
import Derived.Test.YtmdifoclojogpaaGreatDoorYSam
import Derived.Test.YtmdifoclojogpaaGreatDoorYSen
import Derived.Test.YtmdifoclojogpaaGreatDoorYNew
namespace Go.Proofs.YtmdifoclojogpaaGreatDoor
open Go.RowKit

theorem flat_ops (t : Tr) (h : t.Ok) : OpsOk (t.flat 0) ∧ okN (t.flat 0) := by
  have h1 := t.tro [] h ⟨fun i n hn => by cases hn⟩
  rw [List.nil_append] at h1
  have h2 : TrO (t.flat 0) := h1
  refine ⟨fun x hx => ?_, fun x hx => ?_⟩
  · obtain ⟨i, hi, e⟩ := List.mem_iff_getElem.1 hx
    exact (h2.ok i x (by rw [List.getElem?_eq_getElem hi, e])).1
  · obtain ⟨i, hi, e⟩ := List.mem_iff_getElem.1 hx
    exact (h2.ok i x (by rw [List.getElem?_eq_getElem hi, e])).2.2.2.2
theorem scan_long {s : ByteArray} (h : 400 < s.size) : scan s = ([], 0, 3) := by unfold scan; rw [if_pos h]
set_option maxRecDepth 100000 in
set_option maxHeartbeats 8000000 in
theorem yback_any (w : World) (A : Option Addr) (D n cap : Nat) (l : List Nat) (hr : ReadsL w D A l) (hD : l ≠ [] → D < w.heap.size) (hl : l.length = n) (hn : n ≤ cap) (hcap : cap ≤ maxLen) (hs : Small l) (hy : Syms w) (hy2 : SymY w) :
    Calls Tryz.prog 3 #[.slice A n cap] w (RetX (.bool true) w) := by
  have KN1 := Lib.hid (nw_lim 30 (by decide) hr hD hl hn hcap hs w (Below.refl _ _))
  have HY := Lib.hid hy
  have HY2 := Lib.hid hy2
  have hlt1 : 1 < w.heap.size := hy2.lt
  have HBG : Hid (∀ W, Below w.heap.size w W → Calls Tryz.prog 10 #[] W (RetX (.bool true) W)) := Lib.hid fun W hW => ly_begun W (hy.below hW hy.lt) (hy2.below hW hlt1)
  clear hr hD hl hn hcap hs hy hy2
  go_enter Tryz.func3, Tryz.ntmps3
  go_wp2_with fail
  go_at_call 7
  refine KN1.out.mono ?_
  rintro e w1 ⟨Da, la, rfl, hb1, hc1⟩
  have HB1 := Lib.hid hb1
  have HC1 := Lib.hid hc1
  clear hb1 hc1 KN1
  go_wp2_with fail
  go_at_call 8
  refine (cs_sentence (B := w.heap.size) (K := w.heap.size) (Nat.le_refl _) true 4 (by decide) _ w1 HC1.out).mono ?_
  rintro e w2 ⟨p, hp, rfl, hb2, _, _⟩
  have HB2 := Lib.hid (HB1.out.trans hb2)
  have hps : p.size ≤ 60000 := Nat.le_trans hp (sB_le 4 (by decide))
  clear hb2 hp HC1 HB1
  have h2 := HB2.out.size
  obtain ⟨o, ho⟩ : ∃ o, o = pTree p := ⟨_, rfl⟩
  obtain ⟨m, hme⟩ : ∃ m, m = o.length := ⟨_, rfl⟩
  obtain ⟨k1, hk1⟩ : ∃ b, b = pOk p := ⟨_, rfl⟩
  have KT := Lib.hid (ly_parsedO p (by omega) w2 (HY.out.below HB2.out HY.out.lt) (HY2.out.below HB2.out hlt1) o m k1 ho hme hk1)
  go_wp2_with fail
  go_at_call 9
  refine KT.out.mono ?_
  rintro e w3 ⟨A3, c3, A4, c4, rfl, hc3, hc4, hN3, hN4, hb3⟩
  have HB3 := Lib.hid (HB2.out.trans (hb3.mono h2))
  have h3 := HB3.out.size
  cases k1
  · clear ho hme hk1 hN3 hN4 KT HB2 hb3
    go_wp2_with fail
    go_at_call 10
    refine (HBG.out w3 HB3.out).mono ?_
    rintro e wz ⟨rfl, hbz⟩
    have HBZ := Lib.hid (HB3.out.trans (hbz.mono h3))
    clear hbz
    go_wp2_with fail
    go_ret
    exact ⟨rfl, HBZ.out⟩
  · obtain ⟨t, hok, ht⟩ := pTree_tree p hk1.symm
    have hlim := pTree_lim p hk1.symm
    have hnm0 := pTree_names p hk1.symm
    have hoe : o = t.flat 0 := by rw [ho, ht]
    rw [ht] at hlim hnm0
    have hnm := t.nm 0 hnm0
    subst hoe
    rw [t.flat_len] at hme
    have hm120 : m ≤ 120 := by have := hlim.1; rw [t.flat_len] at this; omega
    have hmt : t.size = m := hme.symm
    have hflat : (t.flat 0).length = m := by rw [t.flat_len]; exact hmt
    have N3 := Lib.hid hN3
    have N4 := Lib.hid hN4
    obtain ⟨x, hx⟩ : ∃ x, x = fmtT t := ⟨_, rfl⟩
    obtain ⟨dd, hdd⟩ : ∃ d, d = depth (t.flat 0) := ⟨_, rfl⟩
    have hxs : x.size ≤ 90000000 := by rw [hx]; exact fmtT_size t hok hnm (by omega)
    have K1 : Hid (∀ W, Below w3.heap.size w3 W → Calls Tryz.prog 11 #[.slice A3 m c3] W (RetX (.string x) W)) := Lib.hid fun W hW => by
      rw [hx]; exact fy_Format W A3 m c3 t hok hnm hmt hm120 (N3.out.below hW) (HY2.out.below (HB3.out.trans (hW.mono h3)) hlt1)
    have K2 : Hid (∀ W, Below w3.heap.size w3 W → Calls Tryz.prog 12 #[.slice A4 m c4] W (RetX (.string x) W)) := Lib.hid fun W hW => by
      rw [hx]; exact rf_Format W A4 m c4 t hok hnm hmt hm120 (N4.out.below hW)
    have K3 : Hid (∀ W, Below w3.heap.size w3 W → Calls Tryz.prog 13 #[.slice A3 m c3] W (RetX (.int .i64 (dd : Nat)) W)) := Lib.hid fun W hW => by
      rw [hdd]; exact py_depth W A3 m c3 (t.flat 0) hflat hc3 (by omega) (N3.out.below hW) (flat_ops t hok).1
    have K4 : Hid (∀ W, Below w3.heap.size w3 W → Calls Tryz.prog 14 #[.slice A4 m c4] W (RetX (.int .i64 (dd : Nat)) W)) := Lib.hid fun W hW => by
      rw [hdd]; exact rp_depth W A4 m c4 (t.flat 0) hflat hc4 (by omega) (N4.out.below hW) (flat_ops t hok).2
    have K5 : Hid (∀ W, Below w.heap.size w W → Calls Tryz.prog 15 #[.string x] W (RetScan (scan x) W)) := Lib.hid fun W hW => lx_scan x (by omega) W (HY.out.below hW HY.out.lt)
    have HBK : Hid (x.size ≤ 400 → pOk x = true ∧ pTree x = t.flat 0) := Lib.hid fun h4 => by
      rw [hx] at h4 ⊢
      exact fmt_back hok hlim.1 hlim.2 h4
    have HX0 : Hid (∀ W W', Below w3.heap.size w3 W → Below W.heap.size W W' → Below w3.heap.size w3 W') := Lib.hid fun W W' h k => h.trans (k.mono h.size)
    have HFL := Lib.hid hflat
    clear ho hk1 hN3 hN4 KT HB2 hb3 ht hlim hnm0 hnm hdd hx hok hme hmt hflat
    go_wp2_with fail
    go_at_call 11
    refine (K1.out w3 (Below.refl _ _)).mono ?_
    rintro e w4 ⟨rfl, hb4⟩
    have H4 := Lib.hid hb4
    clear hb4
    go_wp2_with fail
    go_at_call 12
    refine (K2.out w4 H4.out).mono ?_
    rintro e w5 ⟨rfl, hb5⟩
    have H5 := Lib.hid (HX0.out _ _ H4.out hb5)
    clear hb5
    go_wp2_with fail
    go_at_call 13
    refine (K3.out w5 H5.out).mono ?_
    rintro e w6 ⟨rfl, hb6⟩
    have H6 := Lib.hid (HX0.out _ _ H5.out hb6)
    clear hb6
    go_wp2_with fail
    go_at_call 14
    refine (K4.out w6 H6.out).mono ?_
    rintro e w7 ⟨rfl, hb7⟩
    have H7 := Lib.hid (HX0.out _ _ H6.out hb7)
    have HB7 := Lib.hid (HB3.out.trans (H7.out.mono h3))
    have h7 := HB7.out.size
    clear hb7 K1 K2 K3 K4 H4 H5 H6
    have KS0 := K5.out w7 HB7.out
    by_cases h400 : 400 < x.size
    · rw [scan_long h400] at KS0
      have KS := Lib.hid KS0
      have h4I : (400 : Int) < (x.size : Int) := by omega
      have h4J : ¬ (x.size : Int) ≤ 400 := by omega
      clear KS0 HBK K5
      go_wp2_with fail
      go_at_call 15
      refine KS.out.mono ?_
      rintro e w8 ⟨A8, c8, he, _, hb8⟩
      have he2 : e = .returned (.tuple #[.slice A8 0 c8, .int .i64 0, .int .i64 3]) := he
      subst he2
      have HB8 := Lib.hid (HB7.out.trans (hb8.mono h7))
      have h8 := HB8.out.size
      clear he hb8 KS
      go_wp2_with fail
      go_at_call 10
      refine (HBG.out w8 HB8.out).mono ?_
      rintro e wz ⟨rfl, hbz⟩
      have HBZ := Lib.hid (HB8.out.trans (hbz.mono h8))
      clear hbz
      go_wp2_with fail
      go_ret
      exact ⟨by first | rfl | simp, HBZ.out⟩
    · obtain ⟨b1, b2⟩ := HBK.out (by omega)
      have hTok := scan_tokOk x
      have hsl := scan_len x
      unfold pOk at b1
      rw [Bool.and_eq_true, decide_eq_true_iff, decide_eq_true_iff] at b1
      unfold pTree at b2
      rw [if_pos b1.1] at b2
      obtain ⟨⟨l8, ri, rc⟩, hS⟩ : ∃ R, scan x = R := ⟨_, rfl⟩
      rw [hS] at KS0 hTok b1 b2 hsl
      simp only at hTok b1 b2 hsl
      obtain ⟨rfl, b1⟩ := b1
      obtain ⟨n8, hn8⟩ : ∃ n, n = l8.length := ⟨_, rfl⟩
      have HN8 := Lib.hid hn8
      obtain ⟨⟨o9, pi, pc⟩, hP⟩ : ∃ R, parse l8 = R := ⟨_, rfl⟩
      rw [hP] at b1 b2
      simp only at b1 b2
      subst b1 b2
      have HP := Lib.hid hP
      have KS := Lib.hid KS0
      have HTO := Lib.hid (hTok rfl)
      have h4I : ¬ (400 : Int) < (x.size : Int) := by omega
      have h4J : (x.size : Int) ≤ 400 := by omega
      clear KS0 HBK K5 hTok hS hn8 hP hsl
      go_wp2_with fail
      go_at_call 15
      refine KS.out.mono ?_
      rintro e w8 ⟨A8, c8, he, hO8, hb8⟩
      have he2 : e = .returned (.tuple #[.slice A8 n8 c8, .int .i64 (ri : Nat), .int .i64 0]) := by rw [HN8.out]; exact he
      subst he2
      have hc8 : n8 ≤ c8 := by rw [HN8.out]; exact own_le hO8
      have T8 := Lib.hid (tokR_own hO8 rfl)
      have H8 := Lib.hid (HX0.out _ _ H7.out hb8)
      have HB8 := Lib.hid (HB7.out.trans (hb8.mono h7))
      have h8 := HB8.out.size
      have K6 := Lib.hid (py_Parse w8 A8 n8 c8 l8 HN8.out.symm hc8 HTO.out T8.out.atB (HY2.out.below HB8.out hlt1))
      rw [HP.out] at K6
      clear he hO8 hb8 KS
      go_wp2_with fail
      go_at_call 16
      refine K6.out.mono ?_
      rintro e w9 ⟨A9, c9, he, hc9, hn9, hb9⟩
      have he2 : e = .returned (.tuple #[.slice A9 m c9, .int .i64 (pi : Nat), .int .i64 0]) := by rw [← HFL.out]; exact he
      subst he2
      have hc9' : m ≤ c9 := by rw [← HFL.out]; exact hc9
      have N9 := Lib.hid hn9
      have H9 := Lib.hid (HX0.out _ _ H8.out hb9)
      have HB9 := Lib.hid (HB8.out.trans (hb9.mono h8))
      have h9 := HB9.out.size
      have M3 := Lib.hid (N3.out.below H9.out)
      have M4 := Lib.hid (N4.out.below H9.out)
      have hml : ((t.flat 0).map Nd.nc).length = m := by rw [List.length_map]; exact HFL.out
      have K7 : Hid (Calls Tryz.prog 17 #[.slice A9 m c9, .slice A3 m c3] w9 (RetX (.bool true) w9)) := Lib.hid (sy_SameB hml hml hc9' hc3 (by omega) (by omega) N9.out.ncr M3.out.ncr (Below.refl _ w9) (by simp))
      have K8 : Hid (∀ W, Below w9.heap.size w9 W → Calls Tryz.prog 18 #[.slice A9 m c9, .slice A4 m c4] W (RetX (.bool true) W)) := Lib.hid fun W hW => ly_same W (t.flat 0) m A9 A4 c9 c4 HFL.out hc9' hc4 (by omega) (N9.out.below hW) (M4.out.below hW)
      clear he hc9 hn9 hb9 K6 hml
      go_wp2_with fail
      go_at_call 17
      refine K7.out.mono ?_
      rintro e w10 ⟨rfl, hb10⟩
      have HB10 := Lib.hid hb10
      clear hb10 K7
      go_wp2_with fail
      go_at_call 18
      refine (K8.out w10 HB10.out).mono ?_
      rintro e w11 ⟨rfl, hb11⟩
      have HB11 := Lib.hid (HB9.out.trans ((HB10.out.trans (hb11.mono HB10.out.size)).mono h9))
      clear hb11 K8
      go_wp2_with fail
      go_at_call 10
      refine (HBG.out w11 HB11.out).mono ?_
      rintro e wz ⟨rfl, hbz⟩
      have HBZ := Lib.hid (HB11.out.trans (hbz.mono HB11.out.size))
      clear hbz
      go_wp2_with fail
      go_ret
      exact ⟨by first | rfl | simp, HBZ.out⟩
end Go.Proofs.YtmdifoclojogpaaGreatDoor
