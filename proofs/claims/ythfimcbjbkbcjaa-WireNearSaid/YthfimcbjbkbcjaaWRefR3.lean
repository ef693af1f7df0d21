/- The reference's reader: Bytes. -/
import Derived.Test.YthfimcbjbkbcjaaWRefR2
namespace Go.Proofs.Ythfimcbjbkbcjaa
open Go.RowKit

theorem own_slice {w : World} {B : Nat} {v : Value} {l : List Nat} (h : Own w B v l) : ∃ A n cap g, v = .slice A n cap ∧ Hid (n = l.length) ∧ ReadsL w g A l ∧ B ≤ g := by
  rcases h.2 with ⟨rfl, h0⟩ | ⟨g, cap, cur, rfl, hg, hh, hn, hc, hsz, htake⟩
  · obtain rfl : l = [] := List.eq_nil_of_length_eq_zero h0
    exact ⟨none, 0, 0, B, rfl, Lib.hid rfl, .inl rfl, Nat.le_refl _⟩
  · have hgl : g < w.heap.size := by
      rcases Nat.lt_or_ge g w.heap.size with h | h
      · exact h
      · rw [Array.getElem?_eq_none h] at hh; cases hh
    refine ⟨_, _, _, g, rfl, Lib.hid rfl, .inr ⟨0, rfl, hgl, fun i hi => ?_⟩, hg⟩
    rw [Nat.zero_add, World.ownsRow.cellAt h i (by omega), cellsOf_get hi]
theorem own_slice2 {w : World} {B : Nat} {v : Value} {l : List Nat} (h : Own w B v l) (hB : B < w.heap.size) : ∃ A n cap g, v = .slice A n cap ∧ Hid (n = l.length) ∧ ReadsL w g A l ∧ B ≤ g ∧ n ≤ cap ∧ g < w.heap.size := by
  rcases h.2 with ⟨rfl, h0⟩ | ⟨g, cap, cur, rfl, hg, hh, hn, hc, hsz, htake⟩
  · obtain rfl : l = [] := List.eq_nil_of_length_eq_zero h0
    exact ⟨none, 0, 0, B, rfl, Lib.hid rfl, .inl rfl, Nat.le_refl _, Nat.le_refl _, hB⟩
  · have hgl : g < w.heap.size := by
      rcases Nat.lt_or_ge g w.heap.size with h | h
      · exact h
      · rw [Array.getElem?_eq_none h] at hh; cases hh
    refine ⟨_, _, _, g, rfl, Lib.hid rfl, .inr ⟨0, rfl, hgl, fun i hi => ?_⟩, hg, hn, hgl⟩
    rw [Nat.zero_add, World.ownsRow.cellAt h i (by omega), cellsOf_get hi]
theorem slice_lh (a : Option Addr) (n cap l h : Nat) (i j : Int) (hi : i = l) (hj : j = h) (h1 : l ≤ h) (h2 : h ≤ cap) (w : World) :
    (Instr.sliceAt 23 (.slice a n cap) (some (.int .i64 i)) (some (.int .i64 j)) none).run Try.prog w = .ok (.slice (cutA a cap l) (h - l) (cap - l)) w := by
  subst hi
  subst hj
  have hs : (sizeOf (Try.prog.elem 23)).run Try.prog w = .ok 1 w := by kernel_rfl
  rw [run_sliceAt_slice w 23 _ _ _ _ (by kernel_rfl), run_slice_lh w 23 a n cap (by kernel_rfl) .i64 .i64 _ _ (by omega) (by omega) (by omega), hs]
  simp only [Result.andThen, sliced, Int.toNat_natCast, Nat.mul_one, cutA]
theorem slice_l (a : Option Addr) (n cap l : Nat) (i : Int) (hi : i = l) (h1 : l ≤ n) (w : World) :
    (Instr.sliceAt 23 (.slice a n cap) (some (.int .i64 i)) none none).run Try.prog w = .ok (.slice (cutA a cap l) (n - l) (cap - l)) w := by
  subst hi
  have hs : (sizeOf (Try.prog.elem 23)).run Try.prog w = .ok 1 w := by kernel_rfl
  rw [run_sliceAt_slice w 23 _ _ _ _ (by kernel_rfl), run_slice_l w 23 a n cap (by kernel_rfl) .i64 _ (by omega) (by omega), hs]
  simp only [Result.andThen, sliced, Int.toNat_natCast, Nat.mul_one, cutA]
theorem own_empty (w : World) : Own (w.alloc (.cells #[] 5)) w.heap.size (.slice (some ⟨w.heap.size, 0, none⟩) 0 0) [] :=
  World.ownsRow_lit w #[] 0 (Nat.le_refl _) (Nat.zero_le _) rfl
theorem grown_drewN {w w1 : World} {k : Nat} {row : Option Nat} (h : (w.drewN k).grownBy w1 row) : w.grownBy w1 row := ⟨h.os, h.tape, h.output, h.size, h.block⟩
theorem RdAt.drewN {w : World} {R D n cap : Nat} {l : List Nat} {e : Int} {A : Option Addr} (h : RdAt w R D l e A n cap) (k : Nat) : RdAt (w.drewN k) R D l e A n cap := {
  c0 := h.c0
  c1 := h.c1
  f0 := h.f0
  f1 := h.f1
  lt := h.lt
  dlt := h.dlt
  len := h.len
  le := h.le
  max := h.max
  small := h.small
  reads := h.reads
  apart := h.apart }
theorem Meth.undrew {w w' : World} {R D k : Nat} {l : List Nat} {e : Int} {val : Value} {en : Ending} (h : Meth R D val l e (w.drewN k) en w') : Meth R D val l e w en w' := ⟨h.1, grown_drewN h.2.1, h.2.2⟩
theorem MethS.nil {w w' : World} {R D : Nat} {l : List Nat} {e : Int} {en : Ending} (h : Meth R D (.slice none 0 0) l e w en w') : MethS R D [] l e w en w' := ⟨none, 0, 0, w.heap.size, .inl rfl, Nat.le_refl _, Lib.hid rfl, h⟩
section
variable (R D : Nat) (l : List Nat) (A : Option Addr) (n cap : Nat) (w : World)
theorem x_bytes (most : Int) (e : Int) (hR : RdAt w R D l e A n cap) :
    Calls Try.prog 21 #[.pointer (some ⟨R, 0, none⟩), .int .i64 most] w (MethS R D (pick (sE most l) e [] (sX l)) (stL (sE most l) (sK l) l e) (stE (sE most l) e) w) := by
  have hc0 := hR.c0
  have hc1 := hR.c1
  have hf0 := hR.f0
  have hf1 := hR.f1
  have HR := Lib.hid hR
  by_cases he : e = 0
  · subst he
    have hlen := hR.len
    rw [stE_0]
    by_cases hs : l.length < 2
    · have hE : sE most l = 1 := by rw [sE, if_pos hs]
      have h1 : (n : Int) < 2 := by omega
      rw [hE, stL_bad (by decide), pick_bad (by decide)]
      clear hR hlen hE hs
      go_enter Try.func21, Try.ntmps21
      go_wp2_with (go_at_call 41; (refine (fail_any R D l A n cap w _ 0 HR.out).mono ?_; rintro e w' ⟨rfl, rfl⟩))
      go_ret
      exact .nil (.failed HR.out 1 _)
    · have hcap := hR.le
      have hmax := hR.max
      obtain ⟨o, rfl, hb, hc⟩ := hR.reads.resolve_left (fun e => by rw [e] at hs; simp at hs)
      have i0 := hc 0 (by omega)
      rw [Nat.add_zero] at i0
      have i1 := hc 1 (by omega)
      have h0 : decide ((n : Int) < 2) = false := by simp; omega
      have h1 : 0 < (n : Int) := by omega
      have h2 : 1 < (n : Int) := by omega
      have hn2 := num_2 l (by omega)
      have hx0 := hR.small.getD 0
      have hx1 := hR.small.getD 1
      have HC := Lib.hid hc
      have HSM := Lib.hid hR.small
      obtain ⟨v, hv⟩ : ∃ v, Hid (num (l.take 2) = v) := ⟨_, Lib.hid rfl⟩
      have hsE : Hid (sE most l = if most < (v : Int) then 3 else if l.length - 2 < v then 1 else 0) := Lib.hid (by rw [sE, if_neg hs, hv.out])
      rw [hv.out] at hn2
      generalize l.getD 0 0 = x at *
      generalize l.getD 1 0 = y at *
      have HVI : Hid (((x : Int) * 256 + (y : Int)) = (v : Int)) := Lib.hid (by omega)
      have hv6 : (v : Int) ≤ 65535 := by omega
      have hlt := hR.lt
      have HN2 := Lib.hid hn2
      clear hR hc hn2
      by_cases hm : most < (v : Int)
      · have hE : sE most l = 3 := by rw [hsE.out, if_pos hm]
        rw [hE, stL_bad (by decide), pick_bad (by decide)]
        have hm1 : most < (v : Int) := by omega
        clear hE hs hlen hm
        go_enter Try.func21, Try.ntmps21
        go_wp2
        go_quiet (fail)
        rw [HVI.out]
        go_wp2_with (go_at_call 41; (refine (fail_any R D l _ n cap _ _ 0 (HR.out.drewN _)).mono ?_; rintro e w' ⟨rfl, rfl⟩))
        go_ret
        exact .nil (.undrew (.failed (HR.out.drewN _) 3 _))
      · have hm' : decide (most < (v : Int)) = false := by simp; omega
        by_cases hk : l.length - 2 < v
        · have hE : sE most l = 1 := by rw [hsE.out, if_neg hm, if_pos hk]
          have h4 : (n : Int) < 2 + (v : Int) := by omega
          rw [hE, stL_bad (by decide), pick_bad (by decide)]
          clear hE hs hlen hm hk
          go_enter Try.func21, Try.ntmps21
          go_wp2
          go_quiet (fail)
          rw [HVI.out]
          go_wp2_with (go_at_call 41; (refine (fail_any R D l _ n cap _ _ 0 (HR.out.drewN _)).mono ?_; rintro e w' ⟨rfl, rfl⟩))
          go_ret
          exact .nil (.undrew (.failed (HR.out.drewN _) 1 _))
        · have hE : sE most l = 0 := by rw [hsE.out, if_neg hm, if_neg hk]
          have h4 : decide ((n : Int) < 2 + (v : Int)) = false := by simp; omega
          have hvn : 2 + v ≤ n := by omega
          have h5 : 2 + (v : Int) ≤ (cap : Int) := by omega
          have h6 : 2 + (v : Int) ≤ (n : Int) := by omega
          have h7 : (n : Int) ≤ (cap : Int) := by omega
          have h8 : 2 ≤ 2 + (v : Int) := by omega
          rw [stL_ok hE, pick_ok hE, hE, sX, sK, hv.out]
          have HX : Hid (((l.drop 2).take v).length = v) := Lib.hid (by rw [List.length_take, List.length_drop]; omega)
          have hrd := (HR.out.reads.drop 2 (by omega : l.length ≤ cap)).take v
          have HRD := Lib.hid hrd
          obtain ⟨xs, hxs⟩ : ∃ xs, Hid ((l.drop 2).take v = xs) := ⟨_, Lib.hid rfl⟩
          obtain ⟨l2, hl2⟩ : ∃ l2, Hid (l.drop (2 + v) = l2) := ⟨_, Lib.hid rfl⟩
          rw [hxs.out] at HRD HX ⊢
          rw [hl2.out]
          clear hE hs hlen hm hk hrd
          by_cases hc2 : cap = 2
          · subst hc2
            obtain rfl : v = 0 := by omega
            have HRD2 : Hid (ReadsL w D (some ⟨D, o, none⟩) xs) := Lib.hid (by
              have h := HRD.out
              rwa [cutA, if_pos rfl] at h)
            go_enter Try.func21, Try.ntmps21
            go_wp2
            go_quiet (fail)
            rw [HVI.out]
            rename_i nq
            have q0 : ((w.drewN nq).alloc (.cells #[] 5)).cell? ⟨R, 0, none⟩ = some (.slice (some ⟨D, o, none⟩) n 2) := by rw [World.cell?_alloc_past _ _ _ (show R < (w.drewN nq).heap.size from hlt)]; exact hc0
            have q1 : ((w.drewN nq).alloc (.cells #[] 5)).frozen? ⟨R, 0, none⟩ = false := by rw [World.frozen?_alloc_past _ _ _ (show R < (w.drewN nq).heap.size from hlt)]; exact hf0
            have hm2 : decide (most < 0) = false := by simpa using hm'
            obtain rfl : n = 2 := by omega
            go_wp2
            go_ret
            have hRR := ((HR.out.drewN nq).kept (grown_alloc _ (.cells #[] 5) none) (by simp) (by simp)).skip 2 (Nat.le_refl _)
            rw [← hl2.out]
            exact ⟨_, _, _, w.heap.size, .inl (List.eq_nil_of_length_eq_zero HX.out), Nat.le_refl _, Lib.hid HX.out.symm, rfl, (grown_drewN (grown_alloc (w.drewN nq) _ (some R))).trans (grown_set _ R 0 _), _, _, _, hRR⟩
          · have HRD2 : Hid (ReadsL w D (some ⟨D, o + 2, none⟩) xs) := Lib.hid (by
              have h := HRD.out
              rwa [cutA, if_neg hc2, Option.map_some, Addr.add_mid] at h)
            go_enter Try.func21, Try.ntmps21
            go_wp2
            go_quiet (fail)
            rw [HVI.out]
            rename_i nq
            have q0 : ((w.drewN nq).alloc (.cells #[] 5)).cell? ⟨R, 0, none⟩ = some (.slice (some ⟨D, o, none⟩) n cap) := by rw [World.cell?_alloc_past _ _ _ (show R < (w.drewN nq).heap.size from hlt)]; exact hc0
            have q1 : ((w.drewN nq).alloc (.cells #[] 5)).frozen? ⟨R, 0, none⟩ = false := by rw [World.frozen?_alloc_past _ _ _ (show R < (w.drewN nq).heap.size from hlt)]; exact hf0
            have hRne : R ≠ w.heap.size := by omega
            have hDne : D ≠ w.heap.size := by omega
            have HRne := Lib.hid hRne
            have HDne := Lib.hid hDne
            clear hRne hDne
            go_wp2_with (at_builtin; (refine wpList_app (l := []) (v := .slice (some ⟨w.heap.size, 0, none⟩) 0 0) rfl (.tmp 51) (.tmp 58) rfl rfl (own_empty (w.drewN nq)) rfl ((HRD2.out).kept (grown_drewN (grown_alloc (w.drewN nq) _ none)) (by simp)) (by have := HX.out; omega) (by simp; omega) (by simp) ?_; intro v3 w3 hO3 hg3' ha3; have hg3 : World.grownBy _ w3 (some w.heap.size) := hg3'; obtain ⟨A3, n3, cap3, g3, rfl, hn3, hr3, hge⟩ := own_slice hO3; have HR3 := Lib.hid (((HR.out.drewN nq).kept (grown_alloc _ (.cells #[] 5) none) (by simp) (by simp)).kept hg3 (by simpa using Ne.symm HRne.out) (by simpa using Ne.symm HDne.out)); have k0 := HR3.out.c0; have k1 := HR3.out.f0))
            all_goals go_ret
            all_goals have hgR : w.grownBy w3 (some R) := World.grownBy.but ((grown_drewN (grown_alloc (w.drewN nq) _ none)).andThen hg3 fun j hj => .inl (by simp at hj; omega)) (some R)
            all_goals have hsk := HR3.out.skip (2 + v) hvn
            all_goals have hrx := hr3.kept (grown_set w3 R 0 (.slice (cutA (some ⟨D, o, none⟩) cap (2 + v)) (n - (2 + v)) (cap - (2 + v)))) (by simp; have : w.heap.size ≤ g3 := hge; omega)
            all_goals have hge' : w.heap.size ≤ g3 := hge
            all_goals rw [← hl2.out]
            · have hcp := h
              subst hcp
              have hcu : cutA (some ⟨D, o, none⟩) (2 + v) (2 + v) = some ⟨D, o, none⟩ := if_pos rfl
              rw [hcu, Nat.sub_self] at hsk hrx
              exact ⟨_, _, _, g3, hrx, hge, hn3, rfl, hgR.trans (grown_set w3 R 0 _), _, _, _, hsk⟩
            · have hcp := h
              have hcu : cutA (some ⟨D, o, none⟩) cap (2 + v) = some ⟨D, o + (2 + v), none⟩ := by rw [cutA, if_neg hcp, Option.map_some, Addr.add_mid]
              rw [hcu] at hsk hrx
              exact ⟨_, _, _, g3, hrx, hge, hn3, rfl, hgR.trans (grown_set w3 R 0 _), _, _, _, hsk⟩
  · rw [stL_err he, stE_err he, pick_err he]
    have he' := beq_of he
    clear hR he
    go_enter Try.func21, Try.ntmps21
    go_wp2
    go_ret
    exact .nil (.same HR.out _)
end
end Go.Proofs.Ythfimcbjbkbcjaa
