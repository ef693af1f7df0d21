/- Layer 8: the program's Compile. -/
import Derived.Test.YtmdifoclojogpaaGreatDoorTChk
import Derived.Test.YtmdifoclojogpaaGreatDoorYSam
namespace Go.Proofs.YtmdifoclojogpaaGreatDoor
open Go.RowKit Go.Maps

theorem parse_names {l : List Tok} (hT : TokOk l) : ∀ x ∈ (parse l).1, x.name.size ≤ 100000 ∧ x.attr.size ≤ 100000 := by
  have h := pR_inv l (fun x => x.name.size ≤ 100000 ∧ x.attr.size ≤ 100000) (fun _ _ _ => ⟨by show 0 ≤ _; omega, by show 0 ≤ _; omega⟩) ⟨by show 0 ≤ _; omega, by show 0 ≤ _; omega⟩ ⟨by show 0 ≤ _; omega, by show 0 ≤ _; omega⟩
    (fun t ht _ _ _ => ⟨by have := hT.sz t ht; show t.text.size ≤ _; omega, by show 0 ≤ _; omega⟩) (fun t ht u hu _ _ _ _ => ⟨by have := hT.sz t ht; show t.text.size ≤ _; omega, by have := hT.sz u hu; show u.text.size ≤ _; omega⟩) (fun o a b _ => ⟨by show 0 ≤ _; omega, by show 0 ≤ _; omega⟩) _ _ _ _ (pRun_some l) (fun x hx => by cases hx)
  intro x hx
  unfold parse at hx
  split at hx
  · cases hx
  · split at hx
    · cases hx
    · exact h x hx
def RetCm (R : List Nd × Nat) (m : Nat) (w : World) (e : Ending) (w' : World) : Prop := ∃ A c, e = .returned (.tuple #[.slice A m c, .int .i64 (R.2 : Nat)]) ∧ m = R.1.length ∧ m ≤ c ∧ NodR w' A R.1 ∧ Below w.heap.size w w'
set_option maxRecDepth 100000 in
set_option maxHeartbeats 4000000 in
theorem ty_Compile (w : World) (s : ByteArray) (hs : s.size < 9223372036854775807) (A2 : Option Addr) (n2 c2 : Nat) (vs : List (ByteArray × ByteArray)) (hn2 : vs.length = n2) (hc2 : n2 ≤ c2) (hn24 : n2 ≤ 100000) (h2 : VarR w A2 vs) (hvs : VarS vs) (hy1 : Syms w) (hy2 : SymY w) (hy3 : TypY w) :
    Calls Tryz.prog 27 #[.string s, .slice A2 n2 c2] w (RetCm (cmpl s vs) (cmpl s vs).1.length w) := by
  have K1 := Lib.hid (lx_scan s hs w hy1)
  have hlt1 := hy2.lt
  have hlt2 := hy3.lt
  have HY2 := Lib.hid hy2
  have HY3 := Lib.hid hy3
  have HV := Lib.hid h2
  have HVS := Lib.hid hvs
  have HN2 := Lib.hid hn2
  obtain ⟨R, hR⟩ : ∃ R, R = cmpl s vs := ⟨_, rfl⟩
  rw [← hR]
  have HR := Lib.hid hR
  clear hy1 hy2 hy3 h2 hvs hn2 hR
  by_cases h0 : s.size = 0
  · obtain rfl : s = ⟨#[]⟩ := by
      apply ba_ext
      have := bl_len s
      rw [h0] at this
      exact List.eq_nil_of_length_eq_zero this
    have hRe : R = ([⟨2, 0, 0, ⟨#[]⟩, ⟨#[]⟩, 1⟩], 0) := HR.out
    have HRe := Lib.hid hRe
    clear hRe h0 K1 hs
    go_enter Tryz.func27, Tryz.ntmps27
    go_wp2_with fail
    go_at_call 58
    refine (of_any 1 (by decide) _).mono ?_
    rintro e w1 ⟨rfl, hb1⟩
    have HB1 := Lib.hid hb1
    clear hb1
    go_wp2_with fail
    go_ret2
    refine ⟨some ⟨w1.heap.size, 0, none⟩, 1, by rw [HRe.out]; rfl, by rw [HRe.out], by rw [HRe.out]; exact Nat.le_refl 1, ?_, HB1.out.alloc HB1.out.size _⟩
    rw [HRe.out]
    refine ⟨.inr ⟨w1.heap.size, rfl, by simp, fun k hk j hj => ?_⟩⟩
    obtain rfl : k = 0 := by simp at hk; omega
    rw [Nat.zero_mul, Nat.zero_add, World.cell?_alloc_new]
    have : j = 0 ∨ j = 1 ∨ j = 2 ∨ j = 3 ∨ j = 4 ∨ j = 5 ∨ j = 6 := by omega
    rcases this with rfl | rfl | rfl | rfl | rfl | rfl | rfl <;> rfl
  · have hse : (s.toList == []) = false := by
      rw [beq_eq_false_iff_ne]
      intro e
      have := bl_len s
      unfold bl at this
      rw [ByteArray.toList_eq] at e
      rw [e] at this
      simp at this; omega
    have hse2 : ¬ s.toList = [] := by simpa using hse
    have hse3 : s.toList.isEmpty = false := by
      cases hh : s.toList
      · exact absurd hh hse2
      · rfl
    have hTok := scan_tokOk s
    have hGood := scan_tokGood s
    have hsl := scan_len s
    obtain ⟨⟨l, ri, rc⟩, hS⟩ : ∃ R, scan s = R := ⟨_, rfl⟩
    have hRe : R = if rc ≠ 0 then ([], rc) else if (parse l).2.2 ≠ 0 then ([], (parse l).2.2) else if (chk (parse l).1 vs).2 ≠ 0 then ([], (chk (parse l).1 vs).2) else ((parse l).1, 0) := by
      rw [HR.out]; unfold cmpl; rw [if_neg h0, hS]
    rw [hS] at K1 hTok hGood hsl
    simp only at hTok hGood hsl
    obtain ⟨n, hn⟩ : ∃ n, n = l.length := ⟨_, rfl⟩
    have HRe := Lib.hid hRe
    have HTok := Lib.hid hTok
    have HGood := Lib.hid hGood
    have hn4 : n ≤ 400 := by omega
    have HN := Lib.hid hn
    clear hRe hTok hGood hS hsl hn HR
    go_enter Tryz.func27, Tryz.ntmps27
    go_wp2_with fail
    go_at_call 15
    refine K1.out.mono ?_
    rintro e w1 ⟨A1, c1, he, hO1, hb1⟩
    have he2 : e = .returned (.tuple #[.slice A1 n c1, .int .i64 (ri : Nat), .int .i64 (rc : Nat)]) := by rw [HN.out]; exact he
    subst he2
    have hc1 : n ≤ c1 := by rw [HN.out]; exact own_le hO1
    have T1 := Lib.hid (tokR_own hO1 rfl)
    have HB1 := Lib.hid hb1
    have h1 := hb1.size
    clear he hO1 hb1 K1
    by_cases hrc : rc = 0
    · subst hrc
      have HTO := Lib.hid (HTok.out rfl)
      have K3 := Lib.hid (py_Parse w1 A1 n c1 l HN.out.symm hc1 HTO.out T1.out.atB (HY2.out.below HB1.out hlt1))
      have hNames := parse_names HTO.out
      have hTro := parse_tro (HGood.out rfl)
      have hpl := parse_len l
      obtain ⟨⟨o, pi, pc⟩, hP⟩ : ∃ R, parse l = R := ⟨_, rfl⟩
      have hRe : R = if pc ≠ 0 then ([], pc) else if (chk o vs).2 ≠ 0 then ([], (chk o vs).2) else (o, 0) := by
        rw [HRe.out, if_neg (by simp), hP]
      rw [hP] at K3 hNames hTro hpl
      simp only at hNames hTro hpl
      obtain ⟨m, hm⟩ : ∃ m, m = o.length := ⟨_, rfl⟩
      have hm4 : m ≤ 400 := by have := HN.out; omega
      have HM := Lib.hid hm
      have HNm := Lib.hid hNames
      have HTr := Lib.hid hTro
      have HRe2 := Lib.hid hRe
      clear hRe HRe hP hNames hTro hpl hm
      go_wp2_with fail
      go_at_call 16
      refine K3.out.mono ?_
      rintro e w3 ⟨A3, c3, he, hl3, hn3, hb3⟩
      have he2 : e = .returned (.tuple #[.slice A3 m c3, .int .i64 (pi : Nat), .int .i64 (pc : Nat)]) := by rw [HM.out]; exact he
      subst he2
      have N3 := Lib.hid hn3
      have hc3 : m ≤ c3 := by rw [HM.out]; exact hl3
      have HB3 := Lib.hid (HB1.out.trans (hb3.mono h1))
      have h3 := HB3.out.size
      clear he hn3 hb3 hl3 K3
      by_cases hpc : pc = 0
      · subst hpc
        have K4 := Lib.hid (ty_Check w3 A3 A2 m c3 n2 c2 o vs HM.out.symm hc3 (by omega) N3.out HTr.out HNm.out HN2.out hc2 hn24 (HV.out.below HB3.out) HVS.out (HY3.out.below HB3.out hlt2))
        obtain ⟨⟨ci, cc⟩, hC⟩ : ∃ R, chk o vs = R := ⟨_, rfl⟩
        have hRe : R = if cc ≠ 0 then ([], cc) else (o, 0) := by rw [HRe2.out, if_neg (by simp), hC]
        rw [hC] at K4
        have HRe3 := Lib.hid hRe
        clear hRe HRe2 hC
        go_wp2_with fail
        go_at_call 23
        refine K4.out.mono ?_
        rintro e w4 ⟨he, hb4⟩
        have he2 : e = .returned (.tuple #[.int .i64 (ci : Nat), .int .i64 (cc : Nat)]) := he
        subst he2
        have HB4 := Lib.hid (HB3.out.trans (hb4.mono h3))
        have N4 := Lib.hid (N3.out.below hb4)
        clear he hb4 K4
        by_cases hcc : cc = 0
        · subst hcc
          have hRe : R = (o, 0) := by rw [HRe3.out, if_neg (by simp)]
          have HRe4 := Lib.hid hRe
          clear hRe HRe3
          go_wp2_with fail
          go_ret2
          exact ⟨A3, c3, by rw [HRe4.out, HM.out]; rfl, rfl, by rw [HRe4.out]; show o.length ≤ _; rw [← HM.out]; exact hc3, by rw [HRe4.out]; exact N4.out, HB4.out⟩
        · have hccI : ((cc : Int) != 0) = true := by simp; omega
          have hccJ : ¬ (cc : Int) = 0 := by omega
          have hRe : R = ([], cc) := by rw [HRe3.out, if_pos hcc]
          have HRe4 := Lib.hid hRe
          clear hRe HRe3
          go_wp2_with fail
          go_ret2
          exact ⟨none, 0, by rw [HRe4.out]; rfl, rfl, by rw [HRe4.out]; exact Nat.le_refl 0, by rw [HRe4.out]; exact ⟨.inl rfl⟩, HB4.out⟩
      · have hpcI : ((pc : Int) != 0) = true := by simp; omega
        have hpcJ : ¬ (pc : Int) = 0 := by omega
        have hRe : R = ([], pc) := by rw [HRe2.out, if_pos hpc]
        have HRe4 := Lib.hid hRe
        clear hRe HRe2
        go_wp2_with fail
        go_ret2
        exact ⟨none, 0, by rw [HRe4.out]; rfl, rfl, by rw [HRe4.out]; exact Nat.le_refl 0, by rw [HRe4.out]; exact ⟨.inl rfl⟩, HB3.out⟩
    · have hrcI : ((rc : Int) != 0) = true := by simp; omega
      have hrcJ : ¬ (rc : Int) = 0 := by omega
      have hRe : R = ([], rc) := by rw [HRe.out, if_pos hrc]
      have HRe4 := Lib.hid hRe
      clear hRe HRe
      go_wp2_with fail
      go_ret2
      exact ⟨none, 0, by rw [HRe4.out]; rfl, rfl, by rw [HRe4.out]; exact Nat.le_refl 0, by rw [HRe4.out]; exact ⟨.inl rfl⟩, HB1.out⟩
end Go.Proofs.YtmdifoclojogpaaGreatDoor
