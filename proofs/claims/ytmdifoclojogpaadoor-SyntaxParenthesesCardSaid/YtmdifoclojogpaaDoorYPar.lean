/- SyntaxParentheses, its walk. -/
import Derived.Test.YtmdifoclojogpaaDoorYSam
import Derived.Test.YtmdifoclojogpaaDoorYCtx
import Derived.Test.YtmdifoclojogpaaDoorYSen
import Derived.Test.YtmdifoclojogpaaDoorYNew
namespace Go.Proofs.YtmdifoclojogpaaDoor
open Go.RowKit

def parN (s : ByteArray) : Nat → ByteArray
  | 0 => s
  | j + 1 => parT (parN s j)
theorem parN_size (s : ByteArray) (j : Nat) : (parN s j).size = s.size + 2 * j := by
  induction j with
  | zero => rfl
  | succ j ih => show (parT (parN s j)).size = _; rw [parT_size, ih]; omega
theorem parN_same (s : ByteArray) (h : pOk s = true) (j : Nat) (h4 : (parN s j).size ≤ 400) : pOk (parN s j) = true ∧ pTree (parN s j) = pTree s := by
  induction j with
  | zero => exact ⟨h, rfl⟩
  | succ j ih =>
    rw [parN_size] at h4
    obtain ⟨h1, h2⟩ := ih (by rw [parN_size]; omega)
    obtain ⟨h3, h5⟩ := par_same (parN s j) h1 (by rw [parN_size]; omega)
    exact ⟨h3, h5.trans h2⟩
set_option maxRecDepth 100000 in
set_option maxHeartbeats 8000000 in
theorem ypar_any (w : World) (A : Option Addr) (D n cap : Nat) (l : List Nat) (m : Nat) (hm256 : m < 256) (hr : ReadsL w D A l) (hD : l ≠ [] → D < w.heap.size) (hl : l.length = n) (hn : n ≤ cap) (hcap : cap ≤ maxLen) (hs : Small l) (hy : Syms w) (hy2 : SymY w) :
    Calls Tryd.prog 4 #[.slice A n cap, .int .u8 m] w (RetX (.bool true) w) := by
  have KN1 := Lib.hid (nw_lim 30 (by decide) hr hD hl hn hcap hs w (Below.refl _ _))
  have HY := Lib.hid hy
  have HY2 := Lib.hid hy2
  have hlt1 : 2 < w.heap.size := hy2.lt
  obtain ⟨k6, hk6⟩ : ∃ k, k = m % 6 := ⟨_, rfl⟩
  have hmod1 : (m : Int) % 6 = (k6 : Int) := by omega
  have hmod2 : Int.tmod (m : Int) 6 = (k6 : Int) := by rw [Int.tmod_eq_emod_of_nonneg (by omega)]; omega
  have hk66 : k6 < 6 := by omega
  have hcv : IntKind.i64.wrap (m : Int) = (m : Int) := IntWalk.i64_in _ (by omega)
  clear hr hD hl hn hcap hs hy hy2 hk6
  go_enter Tryd.func4, Tryd.ntmps4
  go_wp2_with fail
  go_at_call 9
  refine KN1.out.mono ?_
  rintro e w1 ⟨Da, la, rfl, hb1, hc1⟩
  have HB1 := Lib.hid hb1
  have HC1 := Lib.hid hc1
  clear hb1 hc1 KN1
  go_wp2_with fail
  go_at_call 10
  refine (cs_sentence (B := w.heap.size) (K := w.heap.size) (Nat.le_refl _) true 3 (by decide) _ w1 HC1.out).mono ?_
  rintro e w2 ⟨p, hp, rfl, hb2, _, _⟩
  have HB2 := Lib.hid (HB1.out.trans hb2)
  have hps : p.size ≤ 60000 := Nat.le_trans hp (sB_le 3 (by decide))
  clear hb2 hp HC1 HB1
  have h2 := HB2.out.size
  obtain ⟨o1, ho1⟩ : ∃ o, o = pTree p := ⟨_, rfl⟩
  obtain ⟨m1, hm1e⟩ : ∃ m, m = o1.length := ⟨_, rfl⟩
  obtain ⟨k1, hk1⟩ : ∃ b, b = pOk p := ⟨_, rfl⟩
  have hm1 : m1 ≤ 100000 := by have := pTree_len p; rw [← ho1] at this; omega
  have KT := Lib.hid (ly_parsedO p (by omega) w2 (HY.out.below HB2.out HY.out.lt) (HY2.out.below HB2.out hlt1) o1 m1 k1 ho1 hm1e hk1)
  have HO1 := Lib.hid ho1
  have HM1E := Lib.hid hm1e
  have HK1 := Lib.hid hk1
  clear ho1 hk1 hm1e
  go_wp2_with fail
  go_at_call 13
  refine KT.out.mono ?_
  rintro e w3 ⟨A3, c3, A4, c4, rfl, hc3, hc4, hN3, _, hb3⟩
  have HB3 := Lib.hid (HB2.out.trans (hb3.mono h2))
  have HX3 := Lib.hid hN3.ncr
  have h3 := HB3.out.size
  clear hb3 hN3 KT HB2
  go_wp2_with fail
  go_loopw [5, 10] (fun s i w' => ∃ j : Nat, j ≤ k6 ∧ s = .string (parN p j) ∧ i = .int .i64 j ∧ w' = w3) (fun _ i _ => k6 - (intOf i).toNat)
  case atStart => exact ⟨0, by omega, rfl, rfl, rfl⟩
  case round =>
    obtain ⟨j, hj, rfl, rfl, rfl⟩ := hrel
    obtain ⟨x, hx⟩ : ∃ x, x = parN p j := ⟨_, rfl⟩
    have hxs : x.size ≤ 70000 := by rw [hx, parN_size]; omega
    rw [← hx]
    have HX := Lib.hid hx
    clear hx
    by_cases hlt : j < k6
    · have hltI : (j : Int) < (k6 : Int) := by omega
      have hadd1 : ¬ 9223372036854775807 < (⟨#[40]⟩ : ByteArray).size + x.size := by show ¬ _ < 1 + x.size; omega
      have hadd2 : ¬ 9223372036854775807 < 1 + x.size := by omega
      have hadd3 : ¬ 9223372036854775807 < (⟨#[40]⟩ : ByteArray).size + x.size + (⟨#[41]⟩ : ByteArray).size := by show ¬ _ < 1 + x.size + 1; omega
      have hadd4 : ¬ 9223372036854775807 < 1 + x.size + 1 := by omega
      go_wp2_with fail
      go_roundw
      case rel => exact ⟨j + 1, by omega, by rw [HX.out]; rfl, by simp, by trivial⟩
      case measure => simp [intOf]; omega
    · have hltI : ¬ (j : Int) < (k6 : Int) := by omega
      cases k1
      · go_wp2_with fail
        go_at_call 14
        refine (ly_begun _ (HY.out.below HB3.out HY.out.lt) (HY2.out.below HB3.out hlt1)).mono ?_
        rintro e wz ⟨rfl, hbz⟩
        have HBZ := Lib.hid (HB3.out.trans (hbz.mono h3))
        clear hbz
        go_wp2_with fail
        go_ret
        exact ⟨by first | rfl | simp, HBZ.out⟩
      · by_cases h4 : 400 < x.size
        · have h4I : (400 : Int) < (x.size : Int) := by omega
          go_wp2_with fail
          go_at_call 14
          refine (ly_begun _ (HY.out.below HB3.out HY.out.lt) (HY2.out.below HB3.out hlt1)).mono ?_
          rintro e wz ⟨rfl, hbz⟩
          have HBZ := Lib.hid (HB3.out.trans (hbz.mono h3))
          clear hbz
          go_wp2_with fail
          go_ret
          exact ⟨by first | rfl | simp, HBZ.out⟩
        · have h4I : ¬ (400 : Int) < (x.size : Int) := by omega
          have hsame := parN_same p HK1.out.symm j (by rw [← HX.out]; omega)
          rw [← HX.out] at hsame
          have KT2 := Lib.hid (ly_parsedO x (by omega) wr (HY.out.below HB3.out HY.out.lt) (HY2.out.below HB3.out hlt1) o1 m1 true (by rw [hsame.2]; exact HO1.out) HM1E.out hsame.1.symm)
          clear hsame
          go_wp2_with fail
          go_at_call 13
          refine KT2.out.mono ?_
          rintro e w5 ⟨A5, c5, A6, c6, rfl, hc5, hc6, hN5, _, hb5⟩
          have HB5 := Lib.hid (HB3.out.trans (hb5.mono h3))
          have HX5 := Lib.hid (HX3.out.below hb5)
          have HZ5 := Lib.hid hN5.ncr
          have h5 := HB5.out.size
          have HL : Hid ((o1.map Nd.nc).length = m1) := Lib.hid (by rw [List.length_map, HM1E.out])
          have KS := Lib.hid (sy_SameB (b := true) HL.out HL.out hc3 hc5 hm1 hm1 HX5.out HZ5.out (Below.refl _ w5) (by simp))
          clear hb5 hN5 KT2
          go_wp2_with fail
          go_at_call 15
          refine KS.out.mono ?_
          rintro e w6 ⟨rfl, hb6⟩
          have HB6 := Lib.hid (HB5.out.trans (hb6.mono h5))
          have h6 := HB6.out.size
          clear hb6 KS
          go_wp2_with fail
          go_at_call 14
          refine (ly_begun _ (HY.out.below HB6.out HY.out.lt) (HY2.out.below HB6.out hlt1)).mono ?_
          rintro e wz ⟨rfl, hbz⟩
          have HBZ := Lib.hid (HB6.out.trans (hbz.mono h6))
          clear hbz
          go_wp2_with fail
          go_ret
          exact ⟨by first | rfl | simp, HBZ.out⟩
end Go.Proofs.YtmdifoclojogpaaDoor
