/- The reference's reader: Text. -/
import Derived.Test.YthfimcbjbkbcjaaWRefR3
namespace Go.Proofs.Ythfimcbjbkbcjaa
open Go.RowKit

theorem strL_get (l : List Nat) (hs : Small l) (j : Nat) (h : j < (strL l).size) : ((strL l)[j]'h).toNat = l.getD j 0 := by
  have hj : j < l.length := by rwa [strL_size] at h
  have e : (strL l)[j]'h = UInt8.ofNat (l.getD j 0) := by
    have h1 : (strL l).data.toList[j]? = some (UInt8.ofNat (l.getD j 0)) := by
      rw [strL_data, List.getElem?_map, List.getD_eq_getElem?_getD, List.getElem?_eq_getElem hj]
      rfl
    rw [Array.getElem?_toList] at h1
    exact (Array.getElem?_eq_some_iff.1 h1).2
  rw [e]
  exact (UInt8.toNat_ofNat' ..).trans (Nat.mod_eq_of_lt (hs.getD j))
theorem plain_any (l : List Nat) (hs : Small l) (hl : l.length ≤ 1000000) (w : World) :
    Calls Try.prog 48 #[.string (strL l)] w fun e w' => e = .returned (.bool (plain l)) ∧ w = w' := by
  have hsz := strL_size l
  have hsz2 : (strL l).size ≤ 1000000 := by omega
  cases hp : plain l
  · obtain ⟨k, hk1, hk2, hk3⟩ := not_plain hp
    have HK := Lib.hid hk2
    have HZ := Lib.hid hsz
    have H3 := Lib.hid hk3
    clear hk2 hsz hp hk3
    go_enter Try.func48, Try.ntmps48
    go_wp2
    go_loop [3] (fun i => ∃ j : Nat, j ≤ k ∧ i = .int .i64 j) (fun i => k - (intOf i).toNat)
    case atStart => exact ⟨0, by omega, rfl⟩
    case round =>
      obtain ⟨j, hj, rfl⟩ := hrel
      have hlt : j < (strL l).size := by have := HZ.out; omega
      have hlt' : (j : Int) < ((strL l).size : Int) := by omega
      have hg := strL_get l hs j hlt
      by_cases hjk : j = k
      · subst hjk
        have hk3 := H3.out
        generalize l.getD j 0 = y at hg hk3
        rcases hk3 with hy | hy
        · have hy' : (y : Int) < 32 := by omega
          clear hy
          go_wp2
          go_ret
          exact ⟨rfl, rfl⟩
        · have hy' : 126 < (y : Int) := by omega
          have hy2 : decide ((y : Int) < 32) = false := by simp; omega
          clear hy
          go_wp2
          go_ret
          exact ⟨rfl, rfl⟩
      · obtain ⟨h32, h126⟩ := HK.out j (by omega)
        generalize l.getD j 0 = y at hg h32 h126
        have hy1 : decide ((y : Int) < 32) = false := by simp; omega
        have hy2 : decide (126 < (y : Int)) = false := by simp; omega
        clear h32 h126
        go_wp2
        go_round
        case rel => exact ⟨j + 1, by omega, by simp⟩
        case measure => simp [intOf]; omega
  · have HP := Lib.hid hp
    have HZ := Lib.hid hsz
    clear hsz hp
    go_enter Try.func48, Try.ntmps48
    go_wp2
    go_loop [3] (fun i => ∃ j : Nat, j ≤ l.length ∧ i = .int .i64 j) (fun i => l.length - (intOf i).toNat)
    case atStart => exact ⟨0, by omega, rfl⟩
    case round =>
      obtain ⟨j, hj, rfl⟩ := hrel
      by_cases hjl : j < l.length
      · obtain ⟨h32, h126⟩ := plain_at HP.out j hjl
        have hlt : j < (strL l).size := by have := HZ.out; omega
        have hlt' : (j : Int) < ((strL l).size : Int) := by omega
        have hg := strL_get l hs j hlt
        generalize l.getD j 0 = y at hg h32 h126
        have hy1 : decide ((y : Int) < 32) = false := by simp; omega
        have hy2 : decide (126 < (y : Int)) = false := by simp; omega
        clear h32 h126
        go_wp2
        go_round
        case rel => exact ⟨j + 1, by omega, by simp⟩
        case measure => simp [intOf]; omega
      · have hlt : decide ((j : Int) < ((strL l).size : Int)) = false := by have := HZ.out; simp; omega
        have hlt2 : decide (j < (strL l).size) = false := by have := HZ.out; simp; omega
        go_wp2
        go_ret
        exact ⟨rfl, rfl⟩
section
variable (R D : Nat) (l : List Nat) (A : Option Addr) (n cap : Nat) (w : World)
theorem strL_nil : strL [] = ⟨#[]⟩ := rfl
theorem Small.pick {x : List Nat} (h : Small x) (E e : Int) : Small (Go.Proofs.Ythfimcbjbkbcjaa.pick E e [] x) := by
  unfold Go.Proofs.Ythfimcbjbkbcjaa.pick
  split
  · exact h
  · exact Small.nil
theorem x_text (most : Int) (e : Int) (hR : RdAt w R D l e A n cap) :
    Calls Try.prog 23 #[.pointer (some ⟨R, 0, none⟩), .int .i64 most] w (Meth R D (.string (pick (tE most l) e ⟨#[]⟩ (strL (sX l)))) (stL (tE most l) (sK l) l e) (stE (tE most l) e) w) := by
  have hc0 := hR.c0
  have HR := Lib.hid hR
  have HB := Lib.hid (x_bytes R D l A n cap w most e hR)
  have hlx : (pick (sE most l) e [] (sX l)).length ≤ 1000000 := by
    unfold pick
    split
    · have := hR.len; have := hR.le; have := hR.max; rw [sX, List.length_take, List.length_drop]; omega
    · simp
  have hsx : Small (pick (sE most l) e [] (sX l)) := Small.pick ((hR.small.drop 2).take _) _ _
  have HP := Lib.hid (fun W => plain_any _ hsx hlx W)
  clear hR hlx hsx
  by_cases hok : plain (pick (sE most l) e [] (sX l)) = true
  · have hT : strL (pick (sE most l) e [] (sX l)) = pick (tE most l) e ⟨#[]⟩ (strL (sX l)) ∧ stL (tE most l) (sK l) l e = stL (sE most l) (sK l) l e ∧ stE (tE most l) e = stE (sE most l) e := by
      by_cases he : e = 0
      · subst he
        by_cases hE : sE most l = 0
        · rw [pick_ok hE] at hok ⊢
          have hT : tE most l = 0 := by rw [tE, if_pos hE, if_pos hok]
          rw [hT, hE]
          exact ⟨(pick_ok rfl).symm, rfl, rfl⟩
        · have hT : tE most l = sE most l := by rw [tE, if_neg hE]
          rw [hT, pick_bad hE, pick_bad hE]
          exact ⟨rfl, rfl, rfl⟩
      · rw [pick_err he, pick_err he, stL_err he, stL_err he, stE_err he, stE_err he]
        exact ⟨rfl, rfl, rfl⟩
    rw [hT.2.1, hT.2.2, ← hT.1]
    clear hT
    have HOK := hok
    generalize pick (sE most l) e [] (sX l) = x0 at *
    generalize stL (sE most l) (sK l) l e = l1 at *
    generalize stE (sE most l) e = e1 at *
    go_enter Try.func23, Try.ntmps23
    go_wp2_with (first
      | (go_at_call 21; refine HB.out.mono ?_; rintro e w1 ⟨A1, n1, cap1, g1, hr1, hlg, hn1, rfl, hg1, A2, n2, cap2, hR1⟩; have hcv := conv_list cap1 hr1 hn1.out.symm; have k0 := hR1.c0; have k2 := hR1.f0; have HR1 := Lib.hid hR1; clear hR1 hr1)
      | (go_at_call 48; refine (HP.out _).mono ?_; rintro e w' ⟨rfl, rfl⟩))
    go_ret
    exact ⟨rfl, hg1, _, _, _, HR1.out⟩
  · have he : e = 0 := by
      by_cases he : e = 0
      · exact he
      · exact absurd (by rw [pick_err he]; rfl) hok
    subst he
    have hE : sE most l = 0 := by
      by_cases hE : sE most l = 0
      · exact hE
      · exact absurd (by rw [pick_bad hE]; rfl) hok
    rw [pick_ok hE] at hok HP HB
    rw [stL_ok hE, stE_0, hE] at HB
    have hT : tE most l = 2 := by rw [tE, if_pos hE, if_neg hok]
    rw [hT, stL_bad (by decide), pick_bad (by decide), stE_0]
    have hpf : plain (sX l) = false := by simpa using hok
    clear hok hE hT
    generalize sX l = x0 at *
    generalize l.drop (sK l) = l1 at *
    go_enter Try.func23, Try.ntmps23
    go_wp2_with (first
      | (go_at_call 21; refine HB.out.mono ?_; rintro e w1 ⟨A1, n1, cap1, g1, hr1, hlg, hn1, rfl, hg1, A2, n2, cap2, hR1⟩; have hcv := conv_list cap1 hr1 hn1.out.symm; have k0 := hR1.c0; have k2 := hR1.f0; have HR1 := Lib.hid hR1; clear hR1 hr1)
      | (go_at_call 48; refine (HP.out _).mono ?_; rintro e w' ⟨rfl, rfl⟩)
      | (go_at_call 41; refine (fail_back R D l A n cap w _ HR.out hg1 HR1.out).mono ?_; rintro e w' ⟨rfl, rfl⟩))
    go_ret
    exact ⟨rfl, (hg1.trans (grown_set _ R 0 _)).trans (grown_set _ R 1 _), _, _, _, HR.out.back hg1 HR1.out 2⟩
end
end Go.Proofs.Ythfimcbjbkbcjaa
