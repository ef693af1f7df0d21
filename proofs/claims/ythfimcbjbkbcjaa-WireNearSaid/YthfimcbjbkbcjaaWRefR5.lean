/- The reference's reader: Value. -/
import Derived.Test.YthfimcbjbkbcjaaWRefR4
import Derived.Test.YthfimcbjbkbcjaaRefParse
namespace Go.Proofs.Ythfimcbjbkbcjaa
open Go.RowKit

theorem rparse_list {A : Option Addr} {D n cap : Nat} {l : List Nat} {w : World} (hr : ReadsL w D A l) (hs : Small l) (hl : l.length = n) (hn : n ≤ 100) {v : Nat} {c : Int} (hv : Hid (pV l = v)) (hc : Hid (pE l = c)) :
    Calls Try.prog 51 #[.slice A n cap] w (RetVE v c w) := by
  subst hl
  rw [← hv.out, ← hc.out]
  exact rparse_any A l.length cap _ w (hr.readsB hs) hn
theorem failed_past {w : World} {R D n cap : Nat} {l : List Nat} {e : Int} {A : Option Addr} (hR : RdAt w R D l e A n cap) (c : Int) (val : Value) (o : Obj) : Meth R D val l c w (.returned val) ((w.setCell ⟨R, 1, none⟩ (.int .i64 c)).alloc o) :=
  ⟨rfl, grown_alloc' (grown_set w R 1 _) _, _, _, _, (hR.fail c).kept (row := none) (grown_alloc _ _ none) (by simp) (by simp)⟩
section
variable (R D : Nat) (l : List Nat) (A : Option Addr) (n cap : Nat) (w : World)
theorem x_value (e : Int) (hR : RdAt w R D l e A n cap) :
    Calls Try.prog 25 #[.pointer (some ⟨R, 0, none⟩)] w (Meth R D (valOf (pick (vE l) e 0 (pV (vX l)))) (stL (vE l) (vK l) l e) (stE (vE l) e) w) := by
  have hc0 := hR.c0
  have hc1 := hR.c1
  have hf0 := hR.f0
  have hf1 := hR.f1
  have hlt := hR.lt
  have HR := Lib.hid hR
  have r1 : w.heap.size ≠ R := by omega
  have r3 : R ≠ w.heap.size := by omega
  have r5 : w.heap.size ≠ D := by have := hR.dlt; omega
  have HA := Lib.hid (hR.kept (w' := w.alloc (.cells #[.int .u64 0, .int .u64 0] 26)) (row := none) (grown_alloc _ _ _) (by simp) (by simp))
  by_cases he : e = 0
  · subst he
    have hlen := hR.len
    rw [stE_0]
    by_cases hs : l.length < 1
    · have hE : vE l = 1 := by rw [vE, if_pos hs]
      obtain rfl : n = 0 := by omega
      rw [hE, stL_bad (by decide), pick_bad (by decide)]
      clear hR hlen hE hs
      go_enter Try.func25, Try.ntmps25
      go_wp2_with (go_at_call 41; (refine (fail_any R D l _ 0 cap _ _ 0 HA.out).mono ?_; rintro e w' ⟨rfl, rfl⟩))
      refine bodyPost_ret (v := valOf 0) (by simp [results, Try.results25, go_sem, valOf, hi_zero, lo_zero]) rfl ?_
      exact failed_past HR.out 1 _ _
    · have hcap := hR.le
      have hmax := hR.max
      obtain ⟨o, rfl, hb, hc⟩ := hR.reads.resolve_left (fun e => by rw [e] at hs; simp at hs)
      have i0 := hc 0 (by omega)
      rw [Nat.add_zero] at i0
      have hn1 := num_1 l (by omega)
      have hx0 := hR.small.getD 0
      have h1 : ((n : Int) == 0) = false := by simp; omega
      have h2 : 0 < (n : Int) := by omega
      obtain ⟨v, hv⟩ : ∃ v, Hid (num (l.take 1) = v) := ⟨_, Lib.hid rfl⟩
      have hvE : Hid (vE l = if v < 1 ∨ 16 < v then 2 else if l.length - 1 < v then 1 else if pE (vX l) = 0 then 0 else 5) := Lib.hid (by rw [vE, if_neg hs, hv.out])
      have hvX : Hid (vX l = (l.drop 1).take v) := Lib.hid (by rw [vX, hv.out])
      have hvK : Hid (vK l = 1 + v) := Lib.hid (by rw [vK, hv.out])
      rw [← hn1, hv.out] at i0 hx0
      clear hn1
      by_cases hx : v < 1 ∨ 16 < v
      · have hE : vE l = 2 := by rw [hvE.out, if_pos hx]
        rw [hE, stL_bad (by decide), pick_bad (by decide)]
        rcases hx with hx | hx
        · have hx' : (v : Int) < 1 := by omega
          obtain rfl : v = 0 := by omega
          clear hR hlen hE hs hc hx
          go_enter Try.func25, Try.ntmps25
          go_wp2_with (go_at_call 41; (refine (fail_any R D l _ n cap _ _ 0 HA.out).mono ?_; rintro e w' ⟨rfl, rfl⟩))
          refine bodyPost_ret (v := valOf 0) (by simp [results, Try.results25, go_sem, valOf, hi_zero, lo_zero]) rfl ?_
          exact failed_past HR.out 2 _ _
        · have hx' : 16 < (v : Int) := by omega
          have hx2 : decide ((v : Int) < 1) = false := by simp; omega
          clear hR hlen hE hs hc hx
          go_enter Try.func25, Try.ntmps25
          go_wp2_with (go_at_call 41; (refine (fail_any R D l _ n cap _ _ 0 HA.out).mono ?_; rintro e w' ⟨rfl, rfl⟩))
          refine bodyPost_ret (v := valOf 0) (by simp [results, Try.results25, go_sem, valOf, hi_zero, lo_zero]) rfl ?_
          exact failed_past HR.out 2 _ _
      · have hx1 : decide ((v : Int) < 1) = false := by simp; omega
        have hx2 : decide (16 < (v : Int)) = false := by simp; omega
        by_cases hk : l.length - 1 < v
        · have hE : vE l = 1 := by rw [hvE.out, if_neg hx, if_pos hk]
          have h4 : (n : Int) < 1 + (v : Int) := by omega
          rw [hE, stL_bad (by decide), pick_bad (by decide)]
          clear hR hlen hE hs hc hx hk
          go_enter Try.func25, Try.ntmps25
          go_wp2_with (go_at_call 41; (refine (fail_any R D l _ n cap _ _ 0 HA.out).mono ?_; rintro e w' ⟨rfl, rfl⟩))
          refine bodyPost_ret (v := valOf 0) (by simp [results, Try.results25, go_sem, valOf, hi_zero, lo_zero]) rfl ?_
          exact failed_past HR.out 1 _ _
        · have h4 : decide ((n : Int) < 1 + (v : Int)) = false := by simp; omega
          have hvn : 1 + v ≤ n := by omega
          have hv1 : 1 ≤ v := by omega
          have hv16 : v ≤ 16 := by omega
          have h5 : 1 + (v : Int) ≤ (cap : Int) := by omega
          have h6 : 1 + (v : Int) ≤ (n : Int) := by omega
          have h7 : (n : Int) ≤ (cap : Int) := by omega
          have h8 : 1 ≤ 1 + (v : Int) := by omega
          have hcap1 : ¬cap = 1 := by omega
          have hcap2 : (cap = 1) = False := by simp [hcap1]
          have HX : Hid ((vX l).length = v) := Lib.hid (by rw [hvX.out, List.length_take, List.length_drop]; omega)
          have HM : Hid (Small (vX l)) := Lib.hid (by rw [hvX.out]; exact (hR.small.drop 1).take v)
          have HQ : Hid (ReadsL (w.alloc (.cells #[.int .u64 0, .int .u64 0] 26)) D (some ⟨D, o + 1, none⟩) (vX l)) := Lib.hid (by
            have h := (HA.out.reads.drop 1 (by omega : l.length ≤ cap)).take v
            rw [cutA, if_neg hcap1, Option.map_some, Addr.add_mid] at h
            rwa [hvX.out])
          have hlt2 : R < w.heap.size + 1 := by omega
          obtain ⟨u, HU⟩ : ∃ u, Hid (pV (vX l) = u) := ⟨_, Lib.hid rfl⟩
          rw [HU.out]
          by_cases hp : pE (vX l) = 0
          · have hE : vE l = 0 := by rw [hvE.out, if_neg hx, if_neg hk, if_pos hp]
            rw [stL_ok hE, pick_ok hE, hE, hvK.out]
            have HP := Lib.hid hp
            obtain ⟨l2, hl2⟩ : ∃ l2, Hid (l.drop (1 + v) = l2) := ⟨_, Lib.hid rfl⟩
            rw [hl2.out]
            clear hR hlen hE hs hc hx hk hp
            go_enter Try.func25, Try.ntmps25
            go_wp2_with (go_at_call 51; (refine (rparse_list HQ.out HM.out (by have := HX.out; omega) (by omega) HU HP).mono ?_; rintro e w1 ⟨rfl, hb1⟩; obtain ⟨z1, z2, z6⟩ := one_kept (row := none) (by simp) (grown_of_below hb1 none); have z10 := z1 0; have z11 := z1 1; have z20 := z2 0; have z21 := z2 1; clear z1 z2; simp only [List.getElem?_toArray, List.getElem?_cons_zero, List.getElem?_cons_succ] at z10 z11; have HR1 := Lib.hid (HA.out.kept (row := none) (grown_of_below hb1 none) (by simp) (by simp)); have k0 := HR1.out.c0; have k1 := HR1.out.f0; have k4 := HR1.out.lt))
            all_goals refine bodyPost_ret (v := .agg #[.int .u64 (hi u), .int .u64 (lo u)]) (by simp [results, Try.results25, go_sem, z6, z10, z11]) rfl ?_
            all_goals have hgr : w.grownBy w1 (some R) := (grown_alloc w _ _).trans (grown_of_below hb1 _)
            all_goals have hsk := HR1.out.skip (1 + v) hvn
            all_goals rw [← hl2.out]
            · subst h
              have hcu : cutA (some ⟨D, o, none⟩) (1 + v) (1 + v) = some ⟨D, o, none⟩ := if_pos rfl
              rw [hcu, Nat.sub_self] at hsk
              exact ⟨rfl, grown_alloc' (grown_new (grown_new (hgr.trans (grown_set w1 R 0 _)) (Nat.le_refl _) _) (Nat.le_refl _) _) _, _, _, _, ((hsk.far r1 r5 _).far r1 r5 _).kept (row := none) (grown_alloc _ _ none) (by simp) (by simp)⟩
            · have hcu : cutA (some ⟨D, o, none⟩) cap (1 + v) = some ⟨D, o + (1 + v), none⟩ := by rw [cutA, if_neg h, Option.map_some, Addr.add_mid]
              rw [hcu] at hsk
              exact ⟨rfl, grown_alloc' (grown_new (grown_new (hgr.trans (grown_set w1 R 0 _)) (Nat.le_refl _) _) (Nat.le_refl _) _) _, _, _, _, ((hsk.far r1 r5 _).far r1 r5 _).kept (row := none) (grown_alloc _ _ none) (by simp) (by simp)⟩
          · have hE : vE l = 5 := by rw [hvE.out, if_neg hx, if_neg hk, if_neg hp]
            rw [hE, stL_bad (by decide), pick_bad (by decide)]
            obtain ⟨c, HP⟩ : ∃ c, Hid (pE (vX l) = c) := ⟨_, Lib.hid rfl⟩
            have hc5 : (c == 0) = false := by rw [← HP.out]; exact beq_of hp
            clear hR hlen hE hs hc hx hk hp
            go_enter Try.func25, Try.ntmps25
            go_wp2_with (first
              | (go_at_call 51; (refine (rparse_list HQ.out HM.out (by have := HX.out; omega) (by omega) HU HP).mono ?_; rintro e w1 ⟨rfl, hb1⟩; obtain ⟨z1, z2, z6⟩ := one_kept (row := none) (by simp) (grown_of_below hb1 none); have z10 := z1 0; have z11 := z1 1; have z20 := z2 0; have z21 := z2 1; clear z1 z2; simp only [List.getElem?_toArray, List.getElem?_cons_zero, List.getElem?_cons_succ] at z10 z11; have HR1 := Lib.hid (HA.out.kept (row := none) (grown_of_below hb1 none) (by simp) (by simp)); have k0 := HR1.out.c0; have k1 := HR1.out.f0; have k4 := HR1.out.lt))
              | (go_at_call 41; (refine (fail_any R D l _ n cap _ _ 0 (HR1.out.kept (row := none) (grown_alloc _ _ none) (by simp) (by simp))).mono ?_; rintro e w' ⟨rfl, rfl⟩)))
            refine bodyPost_ret (v := valOf 0) (by simp [results, Try.results25, go_sem, z6, z10, z11, valOf, hi_zero, lo_zero]) rfl ?_
            have hgr : w.grownBy w1 (some R) := (grown_alloc w _ _).trans (grown_of_below hb1 _)
            have hsk := HR1.out.fail 5
            exact ⟨rfl, grown_alloc' (grown_new (grown_new (hgr.trans (grown_set w1 R 1 _)) (Nat.le_refl _) _) (Nat.le_refl _) _) _, _, _, _, ((hsk.far r1 r5 _).far r1 r5 _).kept (row := none) (grown_alloc _ _ none) (by simp) (by simp)⟩
  · rw [stL_err he, stE_err he, pick_err he]
    have he' := beq_of he
    clear he
    clear hR
    go_enter Try.func25, Try.ntmps25
    go_wp2
    refine bodyPost_ret (v := valOf 0) (by simp [results, Try.results25, go_sem, valOf, hi_zero, lo_zero]) rfl ?_
    exact ⟨rfl, grown_alloc _ _ _, _, _, _, HA.out⟩
end
end Go.Proofs.Ythfimcbjbkbcjaa
