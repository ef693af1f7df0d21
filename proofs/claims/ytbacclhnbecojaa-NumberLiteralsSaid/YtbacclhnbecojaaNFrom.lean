/- matchguardref05: From. -/
import Derived.Test.YtbacclhnbecojaaNOf
namespace Go.Proofs.Ytbacclhnbecojaa
open Go.RowKit

theorem ri_of0 (w : World) : Calls Try.prog 14 #[.int .i64 0] w (RetF 0 w) := ri_of_pos 0 (by decide) (by decide) w
theorem ri_of1 (w : World) : Calls Try.prog 14 #[.int .i64 1] w (RetF 1 w) := ri_of_pos 1 (by decide) (by decide) w
/-- An Int in a box that may be written. -/
structure BoxI (w : World) (P : Nat) (s : Bool) (A : Option Addr) (n c : Nat) (z : Int) : Prop where
  c0 : w.cell? ⟨P, 0, none⟩ = some (.bool s)
  c1 : w.cell? ⟨P, 1, none⟩ = some (.slice A n c)
  f0 : w.frozen? ⟨P, 0, none⟩ = false
  f1 : w.frozen? ⟨P, 1, none⟩ = false
  v : IntS w s A n c z
theorem BoxI.lt {w : World} {P : Nat} {s : Bool} {A : Option Addr} {n c : Nat} {z : Int} (h : BoxI w P s A n c z) : P < w.heap.size := World.block_lt_of_cell? w _ h.c0
theorem BoxI.call {w w' : World} {P : Nat} {s : Bool} {A : Option Addr} {n c : Nat} {z : Int} (h : BoxI w P s A n c z) (hb : Below w.heap.size w w') : BoxI w' P s A n c z :=
  ⟨by rw [hb.cell (p := ⟨P, 0, none⟩) h.lt]; exact h.c0, by rw [hb.cell (p := ⟨P, 1, none⟩) h.lt]; exact h.c1, by rw [hb.frozen (p := ⟨P, 0, none⟩) h.lt]; exact h.f0, by rw [hb.frozen (p := ⟨P, 1, none⟩) h.lt]; exact h.f1, h.v.below hb⟩
theorem BoxI.drew {w : World} {P : Nat} {s : Bool} {A : Option Addr} {n c : Nat} {z : Int} (h : BoxI w P s A n c z) : BoxI w.drew P s A n c z := ⟨h.c0, h.c1, h.f0, h.f1, ⟨h.v.1, h.v.2⟩⟩
/-- another Int is stored into the box -/
theorem BoxI.set {w : World} {P : Nat} {s s' : Bool} {A A' : Option Addr} {n c n' c' : Nat} {z z' : Int} (h : BoxI w P s A n c z) (h' : IntS w s' A' n' c' z') : BoxI ((w.setCell ⟨P, 0, none⟩ (.bool s')).setCell ⟨P, 1, none⟩ (.slice A' n' c')) P s' A' n' c' z' := by
  refine ⟨?_, ?_, ?_, ?_, h'.store h.c0 _ _⟩
  · rw [World.cell?_setCell_other _ _ _ _ (by simp), World.cell?_setCell_same' _ _ _ (by rw [h.c0]; rfl)]
  · rw [World.cell?_setCell_same' _ _ _ (by rw [World.cell?_setCell_other _ _ _ _ (by simp), h.c1]; rfl)]
  · rw [World.frozen?_setCell, World.frozen?_setCell]; exact h.f0
  · rw [World.frozen?_setCell, World.frozen?_setCell]; exact h.f1
theorem BoxI.new {w : World} {s : Bool} {A : Option Addr} {n c : Nat} {z : Int} (h : IntS w s A n c z) : BoxI (w.alloc (.cells #[.bool s, .slice A n c] 30)) w.heap.size s A n c z :=
  ⟨by simp [go_sem], by simp [go_sem], by simp [go_sem], by simp [go_sem], h.alloc _⟩
theorem ResAt.set {w w' : World} {B P : Nat} (h : ResAt w w' B) (hP : P ≠ B) (hw : w.heap.size ≤ P) (v0 v1 : Value) : ResAt w ((w'.setCell ⟨P, 0, none⟩ v0).setCell ⟨P, 1, none⟩ v1) B :=
  ⟨(h.below.setCell (by exact hw) _).setCell (by exact hw) _, h.nb, by rw [World.size_setCell, World.size_setCell]; exact h.lt, by rw [World.cell?_setCell_far _ _ _ _ hP, World.cell?_setCell_far _ _ _ _ hP]; exact h.c0, by rw [World.cell?_setCell_far _ _ _ _ hP, World.cell?_setCell_far _ _ _ _ hP]; exact h.c1, by rw [World.frozen?_setCell, World.frozen?_setCell]; exact h.f0, by rw [World.frozen?_setCell, World.frozen?_setCell]; exact h.f1⟩
/-- From's state behind bit k: the result's block, the bits, the number of the bits from k on -/
structure FrAt (w : World) (v Q P k : Nat) (w' : World) : Prop where
  res : ResAt w w' (w.heap.size + 1)
  bits : BitsAt w' Q v.testBit
  q : w.heap.size + 2 ≤ Q
  qp : Q < P
  box : ∃ s A n c, BoxI w' P s A n c ((v / 2 ^ k : Nat) : Int)
theorem bit_up (v k : Nat) : v / 2 ^ k = v / 2 ^ (k + 1) + v / 2 ^ (k + 1) + (if v.testBit k then 1 else 0) := by
  rw [Nat.pow_succ, ← Nat.div_div_eq_div_mul, Nat.testBit_eq_decide_div_mod_eq]
  by_cases h : v / 2 ^ k % 2 = 1
  · simp only [h, decide_true, if_true]; omega
  · simp only [h, decide_false, Bool.false_eq_true, if_false]; omega
theorem bd_v {v : Nat} (h : v < 2 ^ 128) (k : Nat) : v / 2 ^ k < 2 ^ 128 := Nat.lt_of_le_of_lt (Nat.div_le_self _ _) h
theorem bd_small {n : Nat} (h : n < 2 ^ 140) : Bd (n : Int) := by
  unfold Bd
  have e : (n : Int).natAbs = n := Int.natAbs_natCast n
  rw [e]
  exact Nat.lt_trans h (by decide +kernel)
set_option maxRecDepth 100000 in
set_option maxHeartbeats 2000000 in
theorem ri_from (v : Nat) (hv : v < 2 ^ 128) (w : World) : Calls Try.prog 23 #[.agg #[.int .u64 (hi v), .int .u64 (lo v)]] w (RetF v w) := by
  have HV := Lib.hid hv
  clear hv
  go_enter Try.func23, Try.ntmps23
  go_wp2_with (first
    | (go_at_call 45; refine (read_any _ _).mono ?_; rintro e w1 ⟨rfl, hx⟩) | simp only [zero_bits] | refine wpList_store_newbits rfl rfl rfl rfl ?_
    | (go_at_call 14; refine (ri_of0 _).mono ?_; rintro e w2 ⟨s, A, n, c, rfl, hI, hb2⟩))
  have hstart : FrAt w v w1.heap.size w2.heap.size 128 (w2.alloc (.cells #[.bool s, .slice A n c] 30)) := by
    have r0 := ResAt.new (w := w) (W := w.alloc (.cells #[.int .u64 (hi v), .int .u64 (lo v)] 48)) ((Below.refl _ _).alloc (by simp) _) false none 0 0
    simp only [World.size_alloc] at r0
    have s1 : w.heap.size + 2 ≤ w1.heap.size := by have := hx.size; simpa using this
    have s2 : w1.heap.size + 1 ≤ w2.heap.size := by have := hb2.size; simpa using this
    have al : ∀ (W : World) (o : Obj), Below W.heap.size W (W.alloc o) := fun W o => (Below.refl _ _).alloc (Nat.le_refl _) _
    refine ⟨(((r0.call hx).call (al _ _)).call hb2).call (al _ _), ((BitsAt.new w1 v.testBit _).below hb2 (by simp)).past (by omega) _, s1, by omega, s, A, n, c, ?_⟩
    have e : ((v / 2 ^ 128 : Nat) : Int) = 0 := by rw [Nat.div_eq_of_lt HV.out]; rfl
    rw [e]
    exact BoxI.new hI
  generalize w1.heap.size = Q at hstart ⊢
  generalize w2.heap.size = P at hstart ⊢
  generalize w2.alloc (.cells #[.bool s, .slice A n c] 30) = W0 at hstart ⊢
  clear hI hb2 hx
  go_loopw [5] (fun i w' => ∃ k : Nat, k ≤ 128 ∧ i = .int .i64 ((k : Int) - 1) ∧ FrAt w v Q P k w') (fun i _ => (intOf i + 1).toNat)
  case atStart => exact ⟨128, by omega, rfl, hstart⟩
  case round =>
    obtain ⟨k1, hk, rfl, hR⟩ := hrel
    clear hstart
    have HR := Lib.hid hR
    obtain ⟨s1, A1, n1, c1, hBx⟩ := hR.box
    have HX := Lib.hid hBx
    have b0 := hBx.c0
    have b1 := hBx.c1
    have f0 := hBx.f0
    have f1 := hBx.f1
    have hqp := hR.qp
    have hqw := hR.q
    cases k1 with
    | zero =>
      obtain ⟨r0, c0⟩ := hR.res.c0
      obtain ⟨r1, r2, r3, cc1⟩ := hR.res.c1
      have g0 := hR.res.f0
      have g1 := hR.res.f1
      clear hR hBx
      go_wp2
      refine bodyPost_ret (v := .agg #[.bool s1, .slice A1 n1 c1]) (by simp [results, Try.results23, go_sem, c0, cc1]) rfl ⟨s1, A1, n1, c1, rfl, ?_, store2 HR.out.res.below (by omega) _ _⟩
      have h := HX.out.v.store c0 s1 (.slice A1 n1 c1)
      have e : ((v / 2 ^ 0 : Nat) : Int) = v := by simp
      rw [e] at h
      exact h
    | succ k =>
      have hkk : (k : Int) < 128 := by omega
      have ek : ((k + 1 : Nat) : Int) - 1 = (k : Int) := by omega
      rw [ek]
      have hbit : wr.cell? ⟨Q, k, none⟩ = some (.bool (v.testBit k)) := hR.bits.cell k (by omega)
      obtain ⟨z, hz⟩ : ∃ z, z = v / 2 ^ (k + 1) := ⟨_, rfl⟩
      have HZ := Lib.hid hz
      have HX1 : Hid (IntS wr s1 A1 n1 c1 (z : Int)) := Lib.hid (by rw [hz]; exact hBx.v)
      have HB2 : Hid (Bd ((z : Int) + (z : Int))) := Lib.hid (by
        have : (z : Int) + (z : Int) = ((z + z : Nat) : Int) := by omega
        rw [this]; apply bd_small; have := bd_v HV.out (k + 1); rw [hz]; omega)
      have HB3 : Hid (Bd ((z : Int) + (z : Int) + 1)) := Lib.hid (by
        have : (z : Int) + (z : Int) + 1 = ((z + z + 1 : Nat) : Int) := by omega
        rw [this]; apply bd_small; have := bd_v HV.out (k + 1); rw [hz]; omega)
      have hBU := bit_up v k
      rw [← hz] at hBU
      clear hR hBx ek hz
      have hPQ : P ≠ w.heap.size + 1 := by omega
      have hPw : w.heap.size ≤ P := by omega
      by_cases ht : v.testBit k = true
      · have HU : Hid (((v / 2 ^ k : Nat) : Int) = (z : Int) + (z : Int) + 1) := Lib.hid (by rw [hBU, if_pos ht]; omega)
        have HTB := Lib.hid ht
        clear hBU ht hbit
        go_upto_region 8 with (go_at_call 16; refine (ri_addF _ s1 s1 A1 A1 c1 c1 n1 n1 _ _ HB2.out HX1.out HX1.out).mono ?_; rintro e w4 ⟨s4, A4, n4, c4, rfl, hI4, hb4⟩; have hBox4 := HX.out.call hb4; have e0 := hBox4.c0; have e1 := hBox4.c1; have e2 := hBox4.f0; have e3 := hBox4.f1; have HI4 := Lib.hid hI4; have HX4 := Lib.hid (hBox4.set hI4); have HS4 := Lib.hid (ResAt.set (HR.out.res.call hb4) hPQ hPw (.bool s4) (.slice A4 n4 c4)); have hb4' := (HR.out.bits.below hb4 (by have := HX.out.lt; omega)); have HT4 := Lib.hid ((hb4'.far ⟨P, 0, none⟩ (by simp; omega) (.bool s4)).far ⟨P, 1, none⟩ (by simp; omega) (.slice A4 n4 c4)); have hbit4 := HT4.out.cell k (by omega); rw [HTB.out] at hbit4; clear hBox4 hI4 hb4 hb4')
        clear e0 e1 e2 e3 b0 b1 f0 f1 hbit4
        generalize (w4.setCell ⟨P, 0, none⟩ (.bool s4)).setCell ⟨P, 1, none⟩ (.slice A4 n4 c4) = w5 at HX4 HS4 HT4 ⊢
        have b0 := HX4.out.c0
        have b1 := HX4.out.c1
        go_region_with (first
          | (go_at_call 14; refine (ri_of1 _).mono ?_; rintro e w6 ⟨s6, A6, n6, c6, rfl, hI6, hb6⟩; have hX6 := BoxI.call HX4.out.drew hb6; have d0 := hX6.c0; have d1 := hX6.c1; have HX6 := Lib.hid hX6; have HI6 := Lib.hid hI6; have HS6 := Lib.hid (ResAt.call HS4.out.drew hb6); have HT6 := Lib.hid (BitsAt.below HT4.out.drew hb6 (by have := HX4.out.lt; exact Nat.lt_trans hqp this)); clear hX6 hI6 hb6)
          | (go_at_call 16; refine (ri_addF _ s4 s6 A4 A6 c4 c6 n4 n6 _ _ HB3.out HX6.out.v HI6.out).mono ?_; rintro e w7 ⟨s7, A7, n7, c7, rfl, hI7, hb7⟩; have hX7 := BoxI.call HX6.out hb7; have g0 := hX7.c0; have g1 := hX7.c1; have g2 := hX7.f0; have g3 := hX7.f1; have HX7 := Lib.hid (hX7.set hI7); have HS7 := Lib.hid (ResAt.set (HS6.out.call hb7) hPQ hPw (.bool s7) (.slice A7 n7 c7)); have hT7 := BitsAt.below HT6.out hb7 (by have := HX6.out.lt; omega); have HT7 := Lib.hid ((hT7.far ⟨P, 0, none⟩ (by simp; omega) (.bool s7)).far ⟨P, 1, none⟩ (by simp; omega) (.slice A7 n7 c7)); clear hX7 hI7 hb7 hT7))
        all_goals go_wp2
        all_goals go_roundw
        all_goals go_light
        all_goals try (case measure => simp [intOf])
        all_goals exact ⟨k, by omega, rfl, HS7.out, HT7.out, hqw, hqp, s7, A7, n7, c7, by rw [HU.out]; exact HX7.out⟩
      · have HU : Hid (((v / 2 ^ k : Nat) : Int) = (z : Int) + (z : Int)) := Lib.hid (by rw [hBU, if_neg ht]; omega)
        have ht2 : v.testBit k = false := by simpa using ht
        have HTB := Lib.hid ht2
        clear hBU ht ht2 hbit
        go_wp2_with (go_at_call 16; refine (ri_addF _ s1 s1 A1 A1 c1 c1 n1 n1 _ _ HB2.out HX1.out HX1.out).mono ?_; rintro e w4 ⟨s4, A4, n4, c4, rfl, hI4, hb4⟩; have hBox4 := HX.out.call hb4; have e0 := hBox4.c0; have e1 := hBox4.c1; have e2 := hBox4.f0; have e3 := hBox4.f1; have HI4 := Lib.hid hI4; have HX4 := Lib.hid (hBox4.set hI4); have HS4 := Lib.hid (ResAt.set (HR.out.res.call hb4) hPQ hPw (.bool s4) (.slice A4 n4 c4)); have hb4' := (HR.out.bits.below hb4 (by have := HX.out.lt; omega)); have HT4 := Lib.hid ((hb4'.far ⟨P, 0, none⟩ (by simp; omega) (.bool s4)).far ⟨P, 1, none⟩ (by simp; omega) (.slice A4 n4 c4)); have hbit4 := HT4.out.cell k (by omega); rw [HTB.out] at hbit4; clear hBox4 hI4 hb4 hb4')
        go_roundw
        all_goals go_light
        all_goals try (case measure => simp [intOf])
        all_goals exact ⟨k, by omega, rfl, HS4.out, HT4.out, hqw, hqp, s4, A4, n4, c4, by rw [HU.out]; exact HX4.out⟩
end Go.Proofs.Ytbacclhnbecojaa
