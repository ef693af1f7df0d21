/- TypesCompiles, its walk. -/
import Derived.Test.YtmdifoclojogpaaGreatDoorTRCmp
import Derived.Test.YtmdifoclojogpaaGreatDoorYSen
import Derived.Test.YtmdifoclojogpaaGreatDoorYNew
namespace Go.Proofs.YtmdifoclojogpaaGreatDoor
open Go.RowKit Go.Maps

set_option maxRecDepth 100000 in
set_option maxHeartbeats 16000000 in
theorem tcmp_any (w : World) (s : ByteArray) (A : Option Addr) (D n0 cap : Nat) (l0 : List Nat) (nx : Int) (good : Bool) (hr : ReadsL w D A l0) (hD : l0 ≠ [] → D < w.heap.size) (hl : l0.length = n0) (hn : n0 ≤ cap) (hcap : cap ≤ maxLen) (hs : Small l0) (hy : Syms w) (hy2 : SymY w) (hy3 : TypY w) :
    Calls Tryz.prog 5 #[.string s, .slice A n0 cap, .int .i64 nx, .bool good] w (RetX (.bool true) w) := by
  obtain ⟨m0, hm0⟩ : ∃ m : Nat, m = min s.size 60 := ⟨_, rfl⟩
  have hmin : min (s.size : Int) 60 = (m0 : Int) := by omega
  have hm1 : (m0 : Int) ≤ (s.size : Int) := by omega
  obtain ⟨s1, hs1⟩ : ∃ x, s.extract 0 m0 = x := ⟨_, rfl⟩
  have hs1s : s1.size ≤ 60 := by rw [← hs1, ByteArray.size_extract]; omega
  have KN60 : Hid (∀ W, Below w.heap.size w W → Calls Tryz.prog 7 #[.slice A n0 cap, .int .i64 60] W (RetNw W)) := Lib.hid fun W hW => nw_lim 60 (by decide) hr hD hl hn hcap hs W hW
  have KN30 : Hid (∀ W, Below w.heap.size w W → Calls Tryz.prog 7 #[.slice A n0 cap, .int .i64 30] W (RetNw W)) := Lib.hid fun W hW => nw_lim 30 (by decide) hr hD hl hn hcap hs W hW
  have HY := Lib.hid hy
  have HY2 := Lib.hid hy2
  have HY3 := Lib.hid hy3
  have hlt1 := hy2.lt
  have hlt2 := hy3.lt
  have HS1 := Lib.hid hs1s
  clear hr hD hl hn hcap hs hy hy2 hy3 hm0 hs1s
  go_enter Tryz.func5, Tryz.ntmps5
  go_wp2_with fail
  go_at_call 22
  refine (ty_some nx _).mono ?_
  rintro e w1 ⟨vs, A7, c7, n7, rfl, hn7, hc7, hn76, hvs, hvr, hb1⟩
  have HB1 := Lib.hid hb1
  have HVL : Hid (vs.length = n7) := Lib.hid hn7.symm
  have HVR := Lib.hid hvr
  have HVS := Lib.hid hvs
  have h1 := hb1.size
  clear hb1 hn7 hvs hvr
  try rw [hs1]
  clear hs1 hmin hm1
  go_wp2_with fail
  go_at_call 7
  refine (KN60.out w1 HB1.out).mono ?_
  rintro e w2 ⟨Da, la, rfl, hb2, hc2⟩
  have HB2 := Lib.hid hb2
  have HC2 := Lib.hid hc2
  clear hb2 hc2 KN60
  go_wp2_with fail
  go_at_call 8
  refine (cs_sentence (B := w1.heap.size) (K := w1.heap.size) (Nat.le_refl _) good 4 (by decide) _ w2 HC2.out).mono ?_
  rintro e w3 ⟨s3, hp3, rfl, hb3, _, _⟩
  have HB13 := Lib.hid (HB2.out.trans hb3)
  have HB3 := Lib.hid (HB1.out.trans (HB13.out.mono h1))
  have hps : s3.size ≤ 60000 := Nat.le_trans hp3 (sB_le 4 (by decide))
  have h3 := HB3.out.size
  clear hb3 hp3 HC2 HB2
  go_wp2_with fail
  go_at_call 7
  refine (KN30.out w3 HB3.out).mono ?_
  rintro e w4 ⟨Db, lb, rfl, hb4, hc4⟩
  have HB4 := Lib.hid hb4
  have HC4 := Lib.hid hc4
  clear hb4 hc4 KN30
  go_wp2_with fail
  go_at_call 26
  refine (cs_pieces w4 w3.heap.size (Nat.le_refl _) HC4.out).mono ?_
  rintro e w5 ⟨s5, hs5, rfl, hb5⟩
  have HB35 := Lib.hid (HB4.out.trans hb5)
  have HB5 := Lib.hid (HB3.out.trans (HB35.out.mono h3))
  have HV5 := Lib.hid (HVR.out.below (HB13.out.trans (HB35.out.mono HB13.out.size)))
  have h5 := HB5.out.size
  clear hb5 HC4 HB4 HB35 HB13 HVR
  go_wp2_with fail
  obtain ⟨Sx, hSx⟩ : ∃ Sx : Nat → ByteArray, Sx = fun j => ([s1, ⟨#[]⟩, s3, s5] : List ByteArray).getD j ⟨#[]⟩ := ⟨_, rfl⟩
  have HSZ : Hid (∀ j, (Sx j).size < 9223372036854775807) := Lib.hid fun j => by
    have e1 := HS1.out
    have hall : ∀ t ∈ ([s1, ⟨#[]⟩, s3, s5] : List ByteArray), t.size < 9223372036854775807 := by
      intro t ht
      simp only [List.mem_cons, List.not_mem_nil, or_false] at ht
      rcases ht with rfl | rfl | rfl | rfl
      · omega
      · decide
      · omega
      · omega
    rw [hSx]
    dsimp only
    rw [List.getD_eq_getElem?_getD]
    cases h : ([s1, ⟨#[]⟩, s3, s5] : List ByteArray)[j]? with
    | none => decide
    | some t => exact hall t (List.mem_of_getElem? h)
  have h4s : Four4 (w5.alloc (.cells #[.string s1, .string ⟨#[]⟩, .string s3, .string s5] 9)) w5.heap.size Sx := by
    refine ⟨by simp, fun j hj => ?_⟩
    have hj4 : j = 0 ∨ j = 1 ∨ j = 2 ∨ j = 3 := by omega
    rw [hSx, World.cell?_alloc_new]
    rcases hj4 with rfl | rfl | rfl | rfl <;> rfl
  have HN9 := Lib.hid h4s
  have HB9 := Lib.hid (HB5.out.alloc h5 (.cells #[.string s1, .string ⟨#[]⟩, .string s3, .string s5] 9))
  have HV9 := Lib.hid (HV5.out.below ((Below.refl _ w5).alloc (Nat.le_refl _) (.cells #[.string s1, .string ⟨#[]⟩, .string s3, .string s5] 9)))
  clear h4s hSx
  generalize w5.heap.size = B9 at HN9 ⊢
  generalize w5.alloc (.cells #[.string s1, .string ⟨#[]⟩, .string s3, .string s5] 9) = W9 at HN9 HB9 HV9 ⊢
  have hG : Tryz.prog.eqGuardType Tryz.prog.depth 68 = false := by kernel_rfl
  go_loopw [35] (fun i w' => ∃ k : Nat, k ≤ 4 ∧ i = .int .i64 k ∧ Below w.heap.size w w' ∧ Four4 w' B9 Sx ∧ VarR w' A7 vs) (fun i _ => 4 - (intOf i).toNat)
  case atStart => exact ⟨0, by omega, rfl, HB9.out, HN9.out, HV9.out⟩
  case round =>
    clear HN9 HB9 HV9 HV5
    obtain ⟨k, hk, rfl, hB, hN, hV⟩ := hrel
    obtain ⟨w6, hw6⟩ : ∃ x, x = wr := ⟨wr, rfl⟩
    subst hw6
    have HBk := Lib.hid hB
    have HNk := Lib.hid hN
    have HVk := Lib.hid hV
    have hsz := hB.size
    clear hB hN hV
    by_cases hk4 : k < 4
    · have hkI : (k : Int) < 4 := by omega
      have hk0 : 0 ≤ (k : Int) := by omega
      obtain ⟨t, ht⟩ : ∃ t, t = Sx k := ⟨_, rfl⟩
      have hcell : w6.cell? ⟨B9, k, none⟩ = some (.string t) := by rw [ht]; exact HNk.out.2 k hk4
      have hts : t.size < 9223372036854775807 := by rw [ht]; exact HSZ.out k
      have KA0 := ty_Compile w6 t hts A7 n7 c7 vs HVL.out hc7 (by omega) HVk.out HVS.out (HY.out.below HBk.out HY.out.lt) (HY2.out.below HBk.out hlt1) (HY3.out.below HBk.out hlt2)
      have hcl := cmpl_len t vs
      obtain ⟨⟨o, e0⟩, hE⟩ : ∃ R, cmpl t vs = R := ⟨_, rfl⟩
      rw [hE] at KA0 hcl
      simp only at hcl
      obtain ⟨m, hm⟩ : ∃ m, m = o.length := ⟨_, rfl⟩
      have hm4 : m ≤ 400 := by omega
      have KA := Lib.hid KA0
      have HE := Lib.hid hE
      have HM := Lib.hid hm
      clear KA0 ht hE hcl hm
      go_wp2_with fail
      go_at_call 27
      refine KA.out.mono ?_
      rintro e w7 ⟨Aa, ca, he, _, hca, hNa, hb7⟩
      have he2 : e = .returned (.tuple #[.slice Aa m ca, .int .i64 (e0 : Nat)]) := by rw [HM.out]; exact he
      subst he2
      have hca' : m ≤ ca := by rw [HM.out]; exact hca
      have HB7 := Lib.hid (HBk.out.trans (hb7.mono hsz))
      have h7 := HB7.out.size
      have NA7 := Lib.hid hNa
      have HV7 := Lib.hid (HVk.out.below hb7)
      have HN7 := Lib.hid (HNk.out.call hb7)
      have KV := Lib.hid (tr_vars w7 A7 n7 c7 vs HVL.out hc7 (by omega) HV7.out)
      clear he hca hNa hb7 KA HBk HNk HVk
      go_wp2_with fail
      go_at_call 25
      refine KV.out.mono ?_
      rintro e w8 ⟨A9, c9, he, hc9, hv9, hb8⟩
      have he2 : e = .returned (.slice A9 n7 c9) := by rw [he, HVL.out]
      subst he2
      have hc9' : n7 ≤ c9 := by rw [← HVL.out]; exact hc9
      have HB8 := Lib.hid (HB7.out.trans (hb8.mono h7))
      have h8 := HB8.out.size
      have NA8 := Lib.hid (NA7.out.below hb8)
      have HV8 := Lib.hid (HV7.out.below hb8)
      have HN8 := Lib.hid (HN7.out.call hb8)
      have KB0 := tr_Compile w8 t hts A9 n7 c9 vs HVL.out hc9' (by omega) hv9
      rw [HE.out] at KB0
      have KB := Lib.hid KB0
      clear KB0 he hc9 hv9 hb8 KV HB7 NA7 HV7 HN7
      go_wp2_with fail
      go_at_call 28
      refine KB.out.mono ?_
      rintro e w9 ⟨Ab, cb, he, _, hcb, hNb, hb9⟩
      have he2 : e = .returned (.tuple #[.slice Ab m cb, .int .i64 (e0 : Nat)]) := by rw [HM.out]; exact he
      subst he2
      have hcb' : m ≤ cb := by rw [HM.out]; exact hcb
      have HB9 := Lib.hid (HB8.out.trans (hb9.mono h8))
      have h9 := HB9.out.size
      have NA9 := Lib.hid (NA8.out.below hb9)
      have NB9 := Lib.hid hNb
      have HV9 := Lib.hid (HV8.out.below hb9)
      have HN9 := Lib.hid (HN8.out.call hb9)
      clear he hcb hNb hb9 KB HB8 NA8 HV8 HN8
      go_wp2_with fail
      go_loopw [64] (fun j w' => ∃ q : Nat, q ≤ m ∧ j = .int .i64 q ∧ Below w9.heap.size w9 w') (fun j _ => m - (intOf j).toNat)
      case atStart => exact ⟨0, by omega, rfl, Below.refl _ _⟩
      case round =>
        obtain ⟨q, hq, rfl, hb⟩ := hrel
        have HBB := Lib.hid hb
        have hqs := hb.size
        by_cases hqm : q < m
        · have hqI : (q : Int) < (m : Int) := by omega
          have hql : q < o.length := by have := HM.out; omega
          obtain ⟨g1, e1, l1, a0, a1, a2, a3, a4, a5, a6⟩ := nod_cells (NA9.out.below hb) hql
          obtain ⟨g2, e2, l2, b0, b1, b2, b3, b4, b5, b6⟩ := nod_cells (NB9.out.below hb) hql
          subst e1 e2
          generalize (o[q]'hql) = d at a0 a1 a2 a3 a4 a5 a6 b0 b1 b2 b3 b4 b5 b6
          obtain ⟨x0, hx0⟩ : ∃ x : Nat, x = d.op := ⟨_, rfl⟩
          obtain ⟨x1, hx1⟩ : ∃ x : Nat, x = d.a := ⟨_, rfl⟩
          obtain ⟨x2, hx2⟩ : ∃ x : Nat, x = d.b := ⟨_, rfl⟩
          obtain ⟨x3, hx3⟩ : ∃ x, x = d.name := ⟨_, rfl⟩
          obtain ⟨x4, hx4⟩ : ∃ x, x = d.attr := ⟨_, rfl⟩
          obtain ⟨x5, hx5⟩ : ∃ x : Int, x = hi d.val := ⟨_, rfl⟩
          obtain ⟨x6, hx6⟩ : ∃ x : Int, x = lo d.val := ⟨_, rfl⟩
          rw [← hx0] at a0 b0
          rw [← hx1] at a1 b1
          rw [← hx2] at a2 b2
          rw [← hx3] at a3 b3
          rw [← hx4] at a4 b4
          rw [← hx5] at a5 b5
          rw [← hx6] at a6 b6
          have hqq := fun W => eqr_node (x0 : Nat) (x1 : Nat) (x2 : Nat) x3 x4 x5 x6 W
          clear hx0 hx1 hx2 hx3 hx4 hx5 hx6 hb
          go_wp2
          go_quiet (fail)
          go_wp2
          go_roundw
          case rel => (go_light; exact ⟨q + 1, by omega, by simp, below_drewN (HBB.out.alloc hqs _) _⟩)
          case measure => simp [intOf]; omega
        · have hqI : ¬ (q : Int) < (m : Int) := by omega
          have HBf := Lib.hid (HB9.out.trans (hb.mono h9))
          have HVf := Lib.hid (HV9.out.below hb)
          have HNf := Lib.hid (HN9.out.call hb)
          clear hb
          go_wp2_with fail
          go_roundw
          case rel => (go_light; exact ⟨k + 1, by omega, by simp, HBf.out, HNf.out, HVf.out⟩)
          case measure => simp [intOf]; omega
    · have hkI : ¬ (k : Int) < 4 := by omega
      go_wp2_with fail
      go_at_call 21
      refine (ty_begun _ (HY.out.below HBk.out HY.out.lt) (HY2.out.below HBk.out hlt1) (HY3.out.below HBk.out hlt2)).mono ?_
      rintro e wz ⟨rfl, hbz⟩
      have HBZ := Lib.hid (HBk.out.trans (hbz.mono hsz))
      clear hbz
      go_wp2_with fail
      go_ret
      exact ⟨by first | rfl | simp, HBZ.out⟩
end Go.Proofs.YtmdifoclojogpaaGreatDoor
