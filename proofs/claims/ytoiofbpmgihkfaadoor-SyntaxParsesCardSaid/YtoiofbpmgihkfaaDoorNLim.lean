/- matchguardref05: Limit and Fits. -/
import Derived.Test.YtoiofbpmgihkfaaDoorNFrom
namespace Go.Proofs.YtoiofbpmgihkfaaDoor
open Go.RowKit

/-- the digits of 2^128, the lowest first -/
def D128 : List Nat := [6, 5, 4, 1, 1, 2, 8, 6, 7, 1, 3, 4, 7, 0, 6, 4, 7, 3, 3, 6, 4, 3, 6, 4, 8, 3, 9, 0, 2, 9, 6, 6, 3, 2, 8, 2, 0, 4, 3]
theorem d128_cd : cd 340282366920938463463374607431768211456 = D128 := by
  rw [cd, if_neg (by decide)]
  iterate 38 rw [dg_hi (by decide)]
  rw [dg_lo (by decide)]
  rfl
/-- the bytes of its text -/
def S128 : ByteArray := ⟨#[51, 52, 48, 50, 56, 50, 51, 54, 54, 57, 50, 48, 57, 51, 56, 52, 54, 51, 52, 54, 51, 51, 55, 52, 54, 48, 55, 52, 51, 49, 55, 54, 56, 50, 49, 49, 52, 53, 54]⟩
theorem s128_lit : S128 = ⟨#[51, 52, 48, 50, 56, 50, 51, 54, 54, 57, 50, 48, 57, 51, 56, 52, 54, 51, 52, 54, 51, 51, 55, 52, 54, 48, 55, 52, 51, 49, 55, 54, 56, 50, 49, 49, 52, 53, 54]⟩ := rfl
theorem s128_size : S128.size = 39 := rfl
theorem s128_at : ∀ i, (h : i < 39) → (((S128[i]'h).toNat : Int) - 48) % 256 = ((gd D128 (38 - i) : Nat) : Int) := by decide +kernel
theorem lim_snoc (D : List Nat) (k : Nat) (hk : k < D.length) : D.take (k + 1) = D.take k ++ [gd D k] := by
  unfold gd
  rw [List.take_add_one, List.getD_eq_getElem?_getD, List.getElem?_eq_getElem hk]
  rfl
theorem d128_len : D128.length = 39 := rfl
theorem d128_9 : Sm D128 := by unfold Sm D128; decide
set_option maxRecDepth 100000 in
set_option maxHeartbeats 2000000 in
theorem ri_limit (w : World) : Calls Tryd.prog 64 #[] w (RetF 340282366920938463463374607431768211456 w) := by
  obtain ⟨i0, hi0⟩ : ∃ i, Tryd.prog.info? 3 = some i := Option.isSome_iff_exists.1 (by kernel_rfl)
  have hz0 : i0.zero = some (.int .i64 0) := by
    have : (Tryd.prog.info? 3).map (·.zero) = some (some (.int .i64 0)) := by kernel_rfl
    rw [hi0] at this; simpa using this
  have hy1 : i0.size = 1 := by
    have : (Tryd.prog.info? 3).map (·.size) = some 1 := by kernel_rfl
    rw [hi0] at this; simpa using this
  have hy2 : i0.bytes = 8 := by
    have : (Tryd.prog.info? 3).map (·.bytes) = some 8 := by kernel_rfl
    rw [hi0] at this; simpa using this
  have HI := Lib.hid hi0
  have HZ := Lib.hid hz0
  have HY1 := Lib.hid hy1
  have HY2 := Lib.hid hy2
  clear hi0 hz0 hy1 hy2
  go_enter Tryd.func64, Tryd.ntmps64
  go_wp2
  rw [← s128_lit]
  go_loopw [2, 3] (fun v i w' => ∃ k : Nat, k ≤ 39 ∧ i = .int .i64 (38 - (k : Int)) ∧ ResAt w w' w.heap.size ∧ w'.ownsRow (w.heap.size + 1) 3 1 v k (dcs (D128.take k))) (fun _ i _ => (intOf i + 1).toNat)
  case atStart => exact ⟨0, by omega, rfl, ResAt.new (Below.refl _ _) _ _ _ _, World.ownsRow_nil _ _ _ _⟩
  case round =>
    obtain ⟨k, hk, rfl, hRes, hO⟩ := hrel
    obtain ⟨AR, capR, rfl⟩ := own_form2 hO
    have HR := Lib.hid hRes
    have HO := Lib.hid hO
    have hsz : w.heap.size + 1 ≤ wr.heap.size := hRes.lt
    clear hRes hO
    by_cases hlt : k < 39
    · obtain ⟨i, hi⟩ : ∃ i : Nat, 38 - (k : Int) = i := ⟨38 - k, by omega⟩
      have hi2 : i < 39 := by omega
      have hs := s128_size
      have hs2 : i < S128.size := by omega
      have hs3 : (i : Int) < (S128.size : Int) := by omega
      rw [hi]
      have hb : (((S128[i]'hs2).toNat : Int) - 48) % 256 = ((gd D128 (38 - i) : Nat) : Int) := s128_at i hi2
      obtain ⟨d, hd⟩ : ∃ d, gd D128 (38 - i) = d := ⟨_, rfl⟩
      have ek : 38 - i = k := by omega
      rw [hd] at hb
      rw [ek] at hd
      have HD := Lib.hid hd
      have hlen : (dcs (D128.take k)).length = k := by rw [dcs_len, List.length_take, d128_len]; omega
      clear hd ek hs
      go_wp2_with (at_builtin; (refine wpList_append_own _ rfl (.tmp 11) (.tmp 17) 68 rfl (w.heap.size + 1) 3 i0 _ 1 8 Tryd.underlying68 HI.out HZ.out HY1.out HY2.out rfl (by decide) _ k _ rfl (World.ownsRow.alloc HO.out _) ⟨wr.heap.size, 0, none⟩ 1 1 [.int .i64 (d : Int)] rfl rfl (cell_one_new _ _ _) (by simp [Value.oneCell']) (by unfold maxLen; omega) (by omega) (by simp; omega) ?_; intro v4 w4 hO4 hg4 hi4; clear hi4; have HO4 := Lib.hid hO4; have HR4 := Lib.hid (res_app HR.out HO.out _ hg4); obtain ⟨A4, cap4, rfl⟩ := own_form2 hO4; clear hO4 hg4))
      go_roundw
      case rel =>
        go_light
        refine ⟨k + 1, by omega, ?_, HR4.out, ?_⟩
        · rw [← hi]; simp; omega
        · rw [lim_snoc D128 k (by rw [d128_len]; omega), dcs_snoc, HD.out]; exact HO4.out
      case measure => simp [intOf]
    · obtain rfl : k = 39 := by omega
      have e : D128.take 39 = D128 := rfl
      have hO := HO.out
      rw [e] at hO
      have hcap := own_le hO
      have hD := dig_own hO
      have HD := Lib.hid hD
      have hB := HR.out.below
      have f0 := HR.out.f0
      have f1 := HR.out.f1
      obtain ⟨r0, c0⟩ := HR.out.c0
      obtain ⟨r1, r2, r3, c1⟩ := HR.out.c1
      clear hD hO e
      go_wp2
      refine bodyPost_ret (v := .agg #[.bool false, .slice AR 39 capR]) (by simp [results, Tryd.results64, go_sem, c0, c1]) rfl ?_
      refine ⟨_, AR, _, capR, rfl, ⟨by decide, ⟨by rw [show (340282366920938463463374607431768211456 : Int).natAbs = 340282366920938463463374607431768211456 from rfl, d128_cd]; rfl, hcap, by decide, ?_⟩⟩, store2 hB (Nat.le_refl _) _ _⟩
      rw [show (340282366920938463463374607431768211456 : Int).natAbs = 340282366920938463463374607431768211456 from rfl, d128_cd]
      exact HD.out.store c0 _ _
/-- an Int in a box -/
structure FitW (w : World) (s : Bool) (A : Option Addr) (n c : Nat) (z : Int) (w' : World) : Prop where
  below : Below w.heap.size w w'
  bx : BoxI w' w.heap.size s A n c z
theorem FitW.call {w w1 w2 : World} {s : Bool} {A : Option Addr} {n c : Nat} {z : Int} (h : FitW w s A n c z w1) (hb : Below w1.heap.size w1 w2) : FitW w s A n c z w2 := ⟨h.below.trans (hb.mono h.below.size), h.bx.call hb⟩
theorem FitW.drew {w w1 : World} {s : Bool} {A : Option Addr} {n c : Nat} {z : Int} (h : FitW w s A n c z w1) : FitW w s A n c z w1.drew := ⟨h.below.drew, h.bx.drew⟩
theorem FitW.all {w w' : World} {s : Bool} {A : Option Addr} {n c : Nat} {z : Int} (h : FitW w s A n c z w') : FitW w s A n c z w' ∧ w'.cell? ⟨w.heap.size, 0, none⟩ = some (.bool s) ∧ w'.cell? ⟨w.heap.size, 1, none⟩ = some (.slice A n c) := ⟨h, h.bx.c0, h.bx.c1⟩
set_option maxRecDepth 100000 in
set_option maxHeartbeats 2000000 in
theorem ri_fits (w : World) (s : Bool) (A : Option Addr) (n c : Nat) (z : Int) (hz : Bd (z - 340282366920938463463374607431768211456)) (h : IntS w s A n c z) :
    Calls Tryd.prog 49 #[.agg #[.bool s, .slice A n c]] w (RetX (.bool (decide (0 ≤ z ∧ z < 340282366920938463463374607431768211456))) w) := by
  obtain ⟨b, hb⟩ : ∃ b, decide (0 ≤ z ∧ z < 340282366920938463463374607431768211456) = b := ⟨_, rfl⟩
  rw [hb]
  have HS := Lib.hid h.sign
  have b1 := BoxI.new h
  have HW := Lib.hid (show FitW w s A n c z (w.alloc (.cells #[.bool s, .slice A n c] 70)) from ⟨(Below.refl _ _).alloc (by simp) _, b1⟩)
  have HB := Lib.hid hb
  have HZ := Lib.hid hz
  clear h b1 hb hz
  cases s
  · obtain ⟨k, hk⟩ : ∃ k, k = sgn z 340282366920938463463374607431768211456 := ⟨_, rfl⟩
    have hk2 : decide (k < 0) = b := by
      rw [← HB.out, hk, decide_eq_decide]
      have := HS.out
      simp at this
      unfold sgn; split <;> (try split) <;> omega
    have KL : Hid (∀ W, Calls Tryd.prog 64 #[] W (RetF 340282366920938463463374607431768211456 W)) := Lib.hid fun W => ri_limit W
    have KC : Hid (∀ W s1 s2 A1 A2 c1 c2 n1 n2, IntS W s1 A1 n1 c1 z → IntS W s2 A2 n2 c2 340282366920938463463374607431768211456 → Calls Tryd.prog 63 #[.agg #[.bool s1, .slice A1 n1 c1], .agg #[.bool s2, .slice A2 n2 c2]] W (RetX (.int .i64 k) W)) := Lib.hid fun W s1 s2 A1 A2 c1 c2 n1 n2 h1 h2 => by rw [hk]; exact ri_order W s1 s2 A1 A2 c1 c2 n1 n2 z _ HZ.out h1 h2
    have hI0 := HW.out.drew.bx.v
    clear hk HS HB HZ
    go_enter Tryd.func49, Tryd.ntmps49
    go_upto_region 1 with fail
    go_region_held3 (fun w' => FitW w false A n c z w' ∧ w'.cell? ⟨w.heap.size, 0, none⟩ = some (.bool false) ∧ w'.cell? ⟨w.heap.size, 1, none⟩ = some (.slice A n c))
      (first
        | exact (FitW.drew HW.out).all
        | exact (FitW.call (And.left (by assumption)) (by assumption)).all)
      (first
        | (go_at_call 64; refine (KL.out _).mono ?_; rintro e v1 ⟨s2, A2, n2, c2, rfl, hJ, hv1⟩)
        | (go_at_call 63; refine (KC.out _ _ _ _ _ _ _ _ _ ?_ ?_).mono ?_; (focus (repeat (first | assumption | refine IntS.below ?_ (by assumption)))); (focus (repeat (first | assumption | refine IntS.below ?_ (by assumption)))); rintro e v2 ⟨rfl, hv2⟩; have HF := Lib.hid ((FitW.call (And.left (by assumption)) hv2).below)))
    all_goals go_wp2
    all_goals go_ret
    all_goals exact ⟨by rw [← hk2]; rfl, HF.out⟩
  · have hb2 : false = b := by
      rw [← HB.out, eq_comm, decide_eq_false_iff_not]
      have := HS.out
      simp at this
      omega
    subst hb2
    have HF := HW.out.below.drew
    have c0 := HW.out.drew.bx.c0
    have c1 := HW.out.drew.bx.c1
    clear HS HB HZ
    go_enter Tryd.func49, Tryd.ntmps49
    go_upto_region 1 with fail
    go_region
    all_goals go_wp2
    all_goals go_ret
    all_goals exact ⟨rfl, HF⟩
end Go.Proofs.YtoiofbpmgihkfaaDoor

