/- The reference's reader: Bool, Count, Bytes. -/
import Derived.Test.YthfimcbjbkbcjaaWRefR
import Derived.BigQuiet
import Derived.Deep.QuietTactic
namespace Go.Proofs.Ythfimcbjbkbcjaa
open Go.RowKit

section
variable (R D : Nat) (l : List Nat) (A : Option Addr) (n cap : Nat) (w : World)
/-- fail, behind the position that was set back. -/
theorem fail_back {w' : World} (c : Int) {l2 : List Nat} {e2 : Int} {A2 : Option Addr} {n2 cap2 : Nat} (hR : RdAt w R D l 0 A n cap) (hg : w.grownBy w' (some R)) (h2 : RdAt w' R D l2 e2 A2 n2 cap2) :
    Calls Try.prog 41 #[.pointer (some ⟨R, 0, none⟩), .int .i64 c] (w'.setCell ⟨R, 0, none⟩ (.slice A n cap)) fun en w'' => en = .returned (.tuple #[]) ∧ w'' = (w'.setCell ⟨R, 0, none⟩ (.slice A n cap)).setCell ⟨R, 1, none⟩ (.int .i64 c) := by
  have hb : RdAt (w'.setCell ⟨R, 0, none⟩ (.slice A n cap)) R D l e2 A n cap := {
    c0 := World.cell?_setCell_same' _ _ _ (by rw [h2.c0]; rfl)
    c1 := by rw [World.cell?_setCell_other _ _ _ _ (by simp)]; exact h2.c1
    f0 := by rw [World.frozen?_setCell]; exact h2.f0
    f1 := by rw [World.frozen?_setCell]; exact h2.f1
    lt := by simpa [World.setCell] using h2.lt
    dlt := by have := hg.size; have := hR.dlt; simp [World.setCell]; omega
    len := hR.len
    le := hR.le
    max := hR.max
    small := hR.small
    reads := (hR.reads.kept hg (by simp; exact fun e => hR.apart e.symm)).kept (grown_set w' R 0 _) (by simp; exact fun e => hR.apart e.symm)
    apart := hR.apart }
  exact fail_any R D l A n cap _ c e2 hb
theorem x_bool (e : Int) (hR : RdAt w R D l e A n cap) :
    Calls Try.prog 19 #[.pointer (some ⟨R, 0, none⟩)] w (Meth R D (.bool (pick (bE l) e false (bV l))) (stL (bE l) 1 l e) (stE (bE l) e) w) := by
  have hc0 := hR.c0
  have hc1 := hR.c1
  have hf0 := hR.f0
  have hf1 := hR.f1
  have HR := Lib.hid hR
  by_cases he : e = 0
  · subst he
    have hlen := hR.len
    rw [stE_0]
    by_cases hs : l.length < 1
    · have hE : bE l = 1 := by rw [bE, if_pos hs]
      obtain rfl : n = 0 := by omega
      rw [hE, stL_bad (by decide), pick_bad (by decide)]
      have HF2 := Lib.hid (hR.fail 2)
      clear hR hlen hE hs
      go_enter Try.func19, Try.ntmps19
      go_wp2_with (go_at_call 41; first | (refine (fail_any R D l A 0 cap w _ 0 HR.out).mono ?_; rintro e w' ⟨rfl, rfl⟩) | (refine (fail_any R D l A 0 cap _ _ 2 HF2.out).mono ?_; rintro e w' ⟨rfl, rfl⟩))
      go_ret
      exact ⟨rfl, (grown_set w R 1 _).trans (grown_set _ R 1 _), _, _, _, HF2.out.fail 1⟩
    · have hcap := hR.le
      obtain ⟨o, rfl, hb, hc⟩ := hR.reads.resolve_left (fun e => by rw [e] at hs; simp at hs)
      have i0 := hc 0 (by omega)
      rw [Nat.add_zero] at i0
      have h0 : 0 < (n : Int) := by omega
      have h1 : ((n : Int) == 0) = false := by simp; omega
      have h2 : 1 ≤ (n : Int) := by omega
      have h3 : (n : Int) ≤ (cap : Int) := by omega
      have h4 : 1 ≤ (cap : Int) := by omega
      have hn1 := num_1 l (by omega)
      have hx := hR.small.getD 0
      by_cases hx1 : 1 < l.getD 0 0
      · have hE : bE l = 2 := by rw [bE, if_neg hs, hn1, if_pos hx1]
        rw [hE, stL_bad (by decide), pick_bad (by decide)]
        clear hR hlen hE hs hc hn1
        generalize l.getD 0 0 = x at *
        have hx2 : 1 < (x : Int) := by omega
        clear hx1
        go_enter Try.func19, Try.ntmps19
        go_wp2_with (go_at_call 41; refine (fail_any R D l _ n cap _ _ 0 HR.out).mono ?_; rintro e w' ⟨rfl, rfl⟩)
        go_ret
        exact .failed HR.out 2 _
      · have hE : bE l = 0 := by rw [bE, if_neg hs, hn1, if_neg hx1]
        rw [stL_ok hE, pick_ok hE, hE]
        have hbv : bV l = (((l.getD 0 0 : Nat) : Int) == 1) := by
          rw [bV, hn1, Bool.eq_iff_iff]
          simp only [beq_iff_eq]
          omega
        rw [hbv]
        have hn' : 1 ≤ n := by omega
        obtain ⟨l1, hl1⟩ : ∃ l1, Hid (l.drop 1 = l1) := ⟨_, Lib.hid rfl⟩
        rw [hl1.out]
        clear hR hlen hE hs hc hn1 hbv
        generalize l.getD 0 0 = x at *
        have hx2 : decide (1 < (x : Int)) = false := by simp; omega
        clear hx1
        go_enter Try.func19, Try.ntmps19
        go_wp2
        all_goals go_ret
        all_goals (rw [← hl1.out]; exact .skip HR.out 1 hn' _ (by simp [cutA, *] <;> rw [Addr.add_mid]))
  · rw [stL_err he, stE_err he, pick_err he]
    have he' := beq_of he
    clear hR he
    go_enter Try.func19, Try.ntmps19
    go_wp2
    go_ret
    exact .same HR.out _
theorem x_count (most : Int) (e : Int) (hR : RdAt w R D l e A n cap) :
    Calls Try.prog 38 #[.pointer (some ⟨R, 0, none⟩), .int .i64 most] w (Meth R D (.int .i64 (pick (cE most l) e 0 (cV l))) (stL (cE most l) 2 l e) (stE (cE most l) e) w) := by
  have hc0 := hR.c0
  have hc1 := hR.c1
  have hf0 := hR.f0
  have hf1 := hR.f1
  have HR := Lib.hid hR
  have hU : Calls Try.prog 17 #[.pointer (some ⟨R, 0, none⟩), .int .i64 2] w (Meth R D (.int .i64 (pick (uE 2 l) e 0 (uV 2 l))) (stL (uE 2 l) 2 l e) (stE (uE 2 l) e) w) := x_uint R D l A n cap w 2 (by decide) (by decide) e hR
  by_cases he : e = 0
  · subst he
    rw [stE_0] at hU ⊢
    by_cases hs : l.length < 2
    · have hE : cE most l = 1 := by rw [cE, if_pos hs]
      have hE2 : uE 2 l = 1 := by rw [uE, if_neg (by decide), if_pos (show l.length < (2 : Int).toNat from hs)]
      rw [hE, stL_bad (by decide), pick_bad (by decide)]
      rw [hE2, stL_bad (by decide), pick_bad (by decide)] at hU
      have HU := Lib.hid hU
      clear hR hU hE hE2 hs
      go_enter Try.func38, Try.ntmps38
      go_wp2_with (go_at_call 17; refine HU.out.mono ?_; rintro e w1 ⟨rfl, hg1, A1, n1, cap1, hR1⟩; have k1 := hR1.c1; have HR1 := Lib.hid hR1; clear hR1)
      go_ret
      exact ⟨rfl, hg1, _, _, _, HR1.out⟩
    · have hE2 : uE 2 l = 0 := by rw [uE, if_neg (by decide), if_neg (show ¬l.length < (2 : Int).toNat from hs)]
      rw [stL_ok hE2, pick_ok hE2, hE2] at hU
      have hV : uV 2 l = cV l := rfl
      rw [hV] at hU
      have HU := Lib.hid hU
      obtain ⟨v, hv⟩ : ∃ v, Hid (cV l = v) := ⟨_, Lib.hid rfl⟩
      have hcv : cE most l = if most < cV l then 3 else 0 := by rw [cE, if_neg hs]; rfl
      rw [hv.out] at HU hcv
      by_cases hx : most < v
      · have hE : cE most l = 3 := by rw [hcv, if_pos hx]
        rw [hE, stL_bad (by decide), pick_bad (by decide)]
        clear hR hU hE hE2 hs hcv hV
        go_enter Try.func38, Try.ntmps38
        go_wp2_with (first
          | (go_at_call 17; refine HU.out.mono ?_; rintro e w1 ⟨rfl, hg1, A1, n1, cap1, hR1⟩; have k0 := hR1.c0; have k1 := hR1.c1; have k2 := hR1.f0; have k3 := hR1.f1; have HR1 := Lib.hid hR1; clear hR1)
          | (go_at_call 41; refine (fail_back R D l A n cap w _ HR.out hg1 HR1.out).mono ?_; rintro e w' ⟨rfl, rfl⟩))
        go_ret
        exact ⟨rfl, (hg1.trans (grown_set _ R 0 _)).trans (grown_set _ R 1 _), _, _, _, HR.out.back hg1 HR1.out 3⟩
      · have hE : cE most l = 0 := by rw [hcv, if_neg hx]
        have hx' : decide (most < v) = false := by simp; omega
        rw [stL_ok hE, pick_ok hE, hE, hv.out]
        clear hR hU hE hE2 hs hcv hV hx
        go_enter Try.func38, Try.ntmps38
        go_wp2_with (go_at_call 17; refine HU.out.mono ?_; rintro e w1 ⟨rfl, hg1, A1, n1, cap1, hR1⟩; have k1 := hR1.c1; have HR1 := Lib.hid hR1; clear hR1)
        go_ret
        exact ⟨rfl, hg1, _, _, _, HR1.out⟩
  · rw [stL_err he, stE_err he, pick_err he] at hU ⊢
    have he' := beq_of he
    have HU := Lib.hid hU
    clear hR hU he
    go_enter Try.func38, Try.ntmps38
    go_wp2_with (go_at_call 17; refine HU.out.mono ?_; rintro e w1 ⟨rfl, hg1, A1, n1, cap1, hR1⟩; have k1 := hR1.c1; have HR1 := Lib.hid hR1; clear hR1)
    go_ret
    exact ⟨rfl, hg1, _, _, _, HR1.out⟩
end
end Go.Proofs.Ythfimcbjbkbcjaa
