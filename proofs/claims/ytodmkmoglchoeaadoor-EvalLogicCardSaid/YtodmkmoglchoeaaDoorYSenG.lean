/- matchguardcase: number and Sentence, with what their texts are: any grammar that is closed under what they do. -/
import Derived.Test.YtodmkmoglchoeaaDoorYSen
namespace Go.Proofs.YtodmkmoglchoeaaDoor
open Go.RowKit

structure GramOk (GN GS : Nat → ByteArray → Prop) : Prop where
  lit : ∀ d i, i < 12 → GN d (nuK i)
  neg : ∀ d s, GN d s → GN (d + 1) (⟨#[45]⟩ ++ s)
  par : ∀ d s, GN d s → GN (d + 1) (⟨#[40]⟩ ++ s ++ ⟨#[41]⟩)
  add : ∀ d s r, GN d s → GN d r → GN (d + 1) (s ++ ⟨#[32, 43, 32]⟩ ++ r)
  sub : ∀ d s r, GN d s → GN d r → GN (d + 1) (s ++ ⟨#[32, 45, 32]⟩ ++ ⟨#[40]⟩ ++ r ++ ⟨#[41]⟩)
  tf : ∀ d i, i < 2 → GS d (tr2K i)
  cmp : ∀ d i s r, i < 6 → GN 1 s → GN 1 r → GS d (s ++ op6K i ++ r)
  not : ∀ d s, GS d s → GS (d + 1) (⟨#[33, 40]⟩ ++ s ++ ⟨#[41]⟩)
  con : ∀ d s r, GS d s → GS d r → GS (d + 1) (⟨#[40]⟩ ++ s ++ ⟨#[41, 32, 38, 38, 32]⟩ ++ ⟨#[40]⟩ ++ r ++ ⟨#[41]⟩)
  dis : ∀ d s r, GS d s → GS d r → GS (d + 1) (⟨#[40]⟩ ++ s ++ ⟨#[41, 32, 124, 124, 32]⟩ ++ ⟨#[40]⟩ ++ r ++ ⟨#[41]⟩)
  imp : ∀ d s r, GS d s → GS d r → GS (d + 1) (⟨#[40]⟩ ++ s ++ ⟨#[41, 32, 45, 62, 32]⟩ ++ ⟨#[40]⟩ ++ r ++ ⟨#[41]⟩)
  eql : ∀ d s r, GS d s → GS d r → GS (d + 1) (⟨#[40]⟩ ++ s ++ ⟨#[41, 32, 61, 61, 32]⟩ ++ ⟨#[40]⟩ ++ r ++ ⟨#[41]⟩)
  brk : ∀ d s, GS d s → GS (d + 1) (⟨#[40]⟩ ++ s ++ ⟨#[41]⟩)
def RetTg (B K D : Nat) (l : List Nat) (N : Nat) (P : ByteArray → Prop) (w : World) (e : Ending) (w' : World) : Prop := ∃ s : ByteArray, s.size ≤ N ∧ Hid (P s) ∧ e = .returned (.string s) ∧ Below B w w' ∧ ∃ q, CoAt K D l q w'
set_option maxRecDepth 100000 in
set_option maxHeartbeats 8000000 in
theorem cs_numberG {GN GS : Nat → ByteArray → Prop} (HG0 : GramOk GN GS) {B K D : Nat} {l : List Nat} (hBK : B ≤ K) (g : Bool) : ∀ (d : Nat), d ≤ 5 → ∀ (p : Nat) (w : World), CoAt K D l p w → Calls Tryd.prog 27 #[.pointer (some ⟨K, 0, none⟩), .int .i64 (d : Nat), .bool g] w (RetTg B K D l (nB d) (GN d) w) := by
  intro d
  induction d with
  | zero =>
    intro _ p w h
    have HC := Lib.hid h
    have hKw : K < w.heap.size := h.lt
    clear h
    go_enter Tryd.func27, Tryd.ntmps27
    go_wp2_with fail
    rw [← nuA_lit]
    have hO : K ≠ w.heap.size := by omega
    have hal : Below B w (w.alloc (.cells nuA 9)) := (Below.refl B w).alloc (by omega) _
    go_at_call 21
    refine (next_st 12 (by decide) (by decide) hBK (HC.out.kept (World.grownBy_alloc w (.cells nuA 9) none) (by simp) (fun _ => by simp))).mono ?_
    rintro e w9 ⟨v9, hv9, rfl, hb9, hg9, q9, hc9⟩
    obtain ⟨x9, hx9⟩ : ∃ x, nuK v9 = x := ⟨_, rfl⟩
    have hcell9 : w9.cell? ⟨w.heap.size, v9, none⟩ = some (.string x9) := by
      rw [cell_kept hg9 (by simp) (by intro h; injection h with h; exact hO h.symm), World.cell?_alloc_new, ← hx9]
      exact nu_at v9 hv9
    have hx9s : x9.size ≤ 39 := by rw [← hx9]; exact nu_size v9 hv9
    have HP9 : Hid (∀ d, GN d x9) := Lib.hid fun d => by rw [← hx9]; exact HG0.lit d _ hv9
    have hv9I : (v9 : Int) < 12 := by omega
    have HC9 := Lib.hid hc9
    have HB9 := Lib.hid ((Below.refl B w).trans (hal.trans hb9))
    clear hb9 hg9 hc9 hx9 hal
    go_wp2_with fail
    go_ret
    exact ⟨x9, Nat.le_trans hx9s (nB_ge _), Lib.hid (HP9.out _), rfl, HB9.out, _, HC9.out⟩
  | succ d ih =>
    intro hd p w h
    have HIH := Lib.hid (ih (by omega))
    have HC := Lib.hid h
    have hKw : K < w.heap.size := h.lt
    have hnB := nB_le d (by omega)
    have hd0 : ((d : Int) + 1 == 0) = false := by rw [beq_eq_false_iff_ne]; omega
    have hd1 : (((d + 1 : Nat) : Int) == 0) = false := by rw [beq_eq_false_iff_ne]; omega
    have hd2 : ((d + 1 : Nat) : Int) - 1 = (d : Int) := by omega
    have hd3 : ¬ ((d + 1 : Nat) : Int) = 0 := by omega
    have hd4 : IntKind.i64.wrap (d : Int) = (d : Int) := IntWalk.i64_in _ (by omega)
    have hd5 : ¬ (d : Int) + 1 = 0 := by omega
    clear h ih
    go_enter Tryd.func27, Tryd.ntmps27
    go_wp2_with fail
    go_at_call 21
    refine (next_st 3 (by decide) (by decide) hBK HC.out).mono ?_
    rintro e w1 ⟨v1, hv1, rfl, hb1, _, q1, hc1⟩
    have HC1 := Lib.hid hc1
    have HB1 := Lib.hid hb1
    have hKw1 : K < w1.heap.size := hc1.lt
    clear hc1 hb1 HC
    by_cases h0 : v1 = 0
    · subst h0
      go_wp2_with fail
      rw [← nuA_lit]
      have hO : K ≠ w1.heap.size := by omega
      have hal : Below B w1 (w1.alloc (.cells nuA 9)) := (Below.refl B w1).alloc (by omega) _
      go_at_call 21
      refine (next_st 12 (by decide) (by decide) hBK (HC1.out.kept (World.grownBy_alloc w1 (.cells nuA 9) none) (by simp) (fun _ => by simp))).mono ?_
      rintro e w9 ⟨v9, hv9, rfl, hb9, hg9, q9, hc9⟩
      obtain ⟨x9, hx9⟩ : ∃ x, nuK v9 = x := ⟨_, rfl⟩
      have hcell9 : w9.cell? ⟨w1.heap.size, v9, none⟩ = some (.string x9) := by
        rw [cell_kept hg9 (by simp) (by intro h; injection h with h; exact hO h.symm), World.cell?_alloc_new, ← hx9]
        exact nu_at v9 hv9
      have hx9s : x9.size ≤ 39 := by rw [← hx9]; exact nu_size v9 hv9
      have HP9 : Hid (∀ d, GN d x9) := Lib.hid fun d => by rw [← hx9]; exact HG0.lit d _ hv9
      have hv9I : (v9 : Int) < 12 := by omega
      have HC9 := Lib.hid hc9
      have HB9 := Lib.hid ((HB1.out).trans (hal.trans hb9))
      clear hb9 hg9 hc9 hx9 hal
      go_wp2_with fail
      go_ret
      exact ⟨x9, Nat.le_trans hx9s (nB_ge _), Lib.hid (HP9.out _), rfl, HB9.out, _, HC9.out⟩
    · have h0I : ((v1 : Int) == 0) = false := by rw [beq_eq_false_iff_ne]; omega
      have h0J : ¬ (v1 : Int) = 0 := by omega
      go_wp2_with fail
      go_at_call 21
      refine (next_st 4 (by decide) (by decide) hBK HC1.out).mono ?_
      rintro e w2 ⟨v2, hv2, rfl, hb2, _, q2, hc2⟩
      have HC2 := Lib.hid hc2
      have HB2 := Lib.hid (HB1.out.trans hb2)
      clear hc2 hb2 HC1
      have h4 : v2 = 0 ∨ v2 = 1 ∨ v2 = 2 ∨ v2 = 3 := by omega
      clear h0 h0I h0J hv2
      rcases h4 with rfl | rfl | rfl | rfl
      · go_wp2_with fail
        go_at_call 27
        refine (HIH.out _ _ HC2.out).mono ?_
        rintro e w3 ⟨s3, hs3, HPs3, rfl, hb3, q3, hc3⟩
        have HC3 := Lib.hid hc3
        have HB3 := Lib.hid (HB2.out.trans hb3)
        have hz3 : s3.size ≤ 1434 := Nat.le_trans hs3 hnB
        clear hc3 hb3
        have k1 : ¬ 9223372036854775807 < 1 + s3.size := by omega
        have k2 : ¬ 9223372036854775807 < 1 + s3.size + 1 := by omega
        go_wp2_with fail
        go_ret
        exact ⟨⟨#[45]⟩ ++ s3, by simp; show _ ≤ 2 * nB d + 6; omega, Lib.hid (HG0.neg _ _ HPs3.out), rfl, HB3.out, _, HC3.out⟩
      · go_wp2_with fail
        go_at_call 27
        refine (HIH.out _ _ HC2.out).mono ?_
        rintro e w3 ⟨s3, hs3, HPs3, rfl, hb3, q3, hc3⟩
        have HC3 := Lib.hid hc3
        have HB3 := Lib.hid (HB2.out.trans hb3)
        have hz3 : s3.size ≤ 1434 := Nat.le_trans hs3 hnB
        clear hc3 hb3
        have k1 : ¬ 9223372036854775807 < 1 + s3.size := by omega
        have k2 : ¬ 9223372036854775807 < 1 + s3.size + 1 := by omega
        go_wp2_with fail
        go_ret
        exact ⟨⟨#[40]⟩ ++ s3 ++ ⟨#[41]⟩, by simp; show _ ≤ 2 * nB d + 6; omega, Lib.hid (HG0.par _ _ HPs3.out), rfl, HB3.out, _, HC3.out⟩
      · go_wp2_with fail
        go_at_call 27
        refine (HIH.out _ _ HC2.out).mono ?_
        rintro e w3 ⟨s3, hs3, HPs3, rfl, hb3, q3, hc3⟩
        have HC3 := Lib.hid hc3
        have HB3 := Lib.hid (HB2.out.trans hb3)
        have hz3 : s3.size ≤ 1434 := Nat.le_trans hs3 hnB
        clear hc3 hb3
        have k1 : ¬ 9223372036854775807 < s3.size + 3 := by omega
        have k2 : ¬ 9223372036854775807 < s3.size + 3 + 1 := by omega
        go_wp2_with fail
        go_at_call 27
        refine (HIH.out _ _ HC3.out).mono ?_
        rintro e w4 ⟨s4, hs4, HPs4, rfl, hb4, q4, hc4⟩
        have HC4 := Lib.hid hc4
        have HB4 := Lib.hid (HB3.out.trans hb4)
        have hz4 : s4.size ≤ 1434 := Nat.le_trans hs4 hnB
        clear hc4 hb4
        have k3 : ¬ 9223372036854775807 < s3.size + 3 + s4.size := by omega
        have k4 : ¬ 9223372036854775807 < s3.size + 3 + 1 + s4.size := by omega
        have k5 : ¬ 9223372036854775807 < s3.size + 3 + 1 + s4.size + 1 := by omega
        go_wp2_with fail
        go_ret
        exact ⟨s3 ++ ⟨#[32, 43, 32]⟩ ++ s4, by simp; show _ ≤ 2 * nB d + 6; omega, Lib.hid (HG0.add _ _ _ HPs3.out HPs4.out), rfl, HB4.out, _, HC4.out⟩
      · go_wp2_with fail
        go_at_call 27
        refine (HIH.out _ _ HC2.out).mono ?_
        rintro e w3 ⟨s3, hs3, HPs3, rfl, hb3, q3, hc3⟩
        have HC3 := Lib.hid hc3
        have HB3 := Lib.hid (HB2.out.trans hb3)
        have hz3 : s3.size ≤ 1434 := Nat.le_trans hs3 hnB
        clear hc3 hb3
        have k1 : ¬ 9223372036854775807 < s3.size + 3 := by omega
        have k2 : ¬ 9223372036854775807 < s3.size + 3 + 1 := by omega
        go_wp2_with fail
        go_at_call 27
        refine (HIH.out _ _ HC3.out).mono ?_
        rintro e w4 ⟨s4, hs4, HPs4, rfl, hb4, q4, hc4⟩
        have HC4 := Lib.hid hc4
        have HB4 := Lib.hid (HB3.out.trans hb4)
        have hz4 : s4.size ≤ 1434 := Nat.le_trans hs4 hnB
        clear hc4 hb4
        have k3 : ¬ 9223372036854775807 < s3.size + 3 + s4.size := by omega
        have k4 : ¬ 9223372036854775807 < s3.size + 3 + 1 + s4.size := by omega
        have k5 : ¬ 9223372036854775807 < s3.size + 3 + 1 + s4.size + 1 := by omega
        go_wp2_with fail
        go_ret
        exact ⟨s3 ++ ⟨#[32, 45, 32]⟩ ++ ⟨#[40]⟩ ++ s4 ++ ⟨#[41]⟩, by simp; show _ ≤ 2 * nB d + 6; omega, Lib.hid (HG0.sub _ _ _ HPs3.out HPs4.out), rfl, HB4.out, _, HC4.out⟩
set_option maxRecDepth 100000 in
set_option maxHeartbeats 8000000 in
theorem cs_sentenceG {GN GS : Nat → ByteArray → Prop} (HG0 : GramOk GN GS) {B K D : Nat} {l : List Nat} (hBK : B ≤ K) : ∀ (d : Nat), d ≤ 5 → ∀ (p : Nat) (w : World), CoAt K D l p w → Calls Tryd.prog 14 #[.pointer (some ⟨K, 0, none⟩), .int .i64 (d : Nat), .bool true] w (RetTg B K D l (sB d) (GS d) w) := by
  intro d
  induction d with
  | zero =>
    intro _ p w h
    have HC := Lib.hid h
    have hKw : K < w.heap.size := h.lt
    clear h
    go_enter Tryd.func14, Tryd.ntmps14
    go_wp2_with fail
    rw [← op6A_lit]
    have hO : K ≠ w.heap.size := by omega
    have hal : Below B w (w.alloc (.cells op6A 9)) := (Below.refl B w).alloc (by omega) _
    go_at_call 21
    refine (next_st 6 (by decide) (by decide) hBK (HC.out.kept (World.grownBy_alloc w (.cells op6A 9) none) (by simp) (fun _ => by simp))).mono ?_
    rintro e w9 ⟨v9, hv9, rfl, hb9, hg9, q9, hc9⟩
    obtain ⟨x9, hx9⟩ : ∃ x, op6K v9 = x := ⟨_, rfl⟩
    have hcell9 : w9.cell? ⟨w.heap.size, v9, none⟩ = some (.string x9) := by
      rw [cell_kept hg9 (by simp) (by intro h; injection h with h; exact hO h.symm), World.cell?_alloc_new, ← hx9]
      exact op6_at v9 hv9
    have hx9s : x9.size ≤ 4 := by rw [← hx9]; exact op6_size v9 hv9
    have HP9 : Hid (∀ d s r, GN 1 s → GN 1 r → GS d (s ++ x9 ++ r)) := Lib.hid fun d s r a b => by rw [← hx9]; exact HG0.cmp d _ s r hv9 a b
    have hv9I : (v9 : Int) < 6 := by omega
    have HC9 := Lib.hid hc9
    have HB9 := Lib.hid ((Below.refl B w).trans (hal.trans hb9))
    clear hb9 hg9 hc9 hx9 hal
    go_wp2_with fail
    go_at_call 21
    refine (next_st 6 (by decide) (by decide) hBK HC9.out).mono ?_
    rintro e wA ⟨vA, hvA, rfl, hbA, _, qA, hcA⟩
    have HCA := Lib.hid hcA
    have HBA := Lib.hid (HB9.out.trans hbA)
    have hKA : K < wA.heap.size := hcA.lt
    clear hbA hcA HC9 HB9 hv9I hv9 hcell9
    by_cases h1 : vA = 1
    · subst h1
      go_wp2_with fail
      rw [← tr2A_lit]
      have hO8 : K ≠ wA.heap.size := by omega
      have hal8 : Below B wA (wA.alloc (.cells tr2A 9)) := (Below.refl B wA).alloc (by omega) _
      go_at_call 21
      refine (next_st 2 (by decide) (by decide) hBK (HCA.out.kept (World.grownBy_alloc wA (.cells tr2A 9) none) (by simp) (fun _ => by simp))).mono ?_
      rintro e w8 ⟨v8, hv8, rfl, hb8, hg8, q8, hc8⟩
      obtain ⟨x8, hx8⟩ : ∃ x, tr2K v8 = x := ⟨_, rfl⟩
      have hcell8 : w8.cell? ⟨wA.heap.size, v8, none⟩ = some (.string x8) := by
        rw [cell_kept hg8 (by simp) (by intro h; injection h with h; exact hO8 h.symm), World.cell?_alloc_new, ← hx8]
        exact tr2_at v8 hv8
      have hx8s : x8.size ≤ 5 := by rw [← hx8]; exact tr2_size v8 hv8
      have HP8 : Hid (∀ d, GS d x8) := Lib.hid fun d => by rw [← hx8]; exact HG0.tf d _ hv8
      have hv8I : (v8 : Int) < 2 := by omega
      have HC8 := Lib.hid hc8
      have HB8 := Lib.hid ((HBA.out).trans (hal8.trans hb8))
      clear hb8 hg8 hc8 hx8 hal8
      go_wp2_with fail
      go_ret
      exact ⟨x8, Nat.le_trans hx8s (by have := sB_ge 0; first | exact Nat.le_trans (by decide) (sB_ge _)), Lib.hid (HP8.out _), rfl, HB8.out, _, HC8.out⟩
    · have h1I : ((vA : Int) == 1) = false := by rw [beq_eq_false_iff_ne]; omega
      have h1J : ¬ (vA : Int) = 1 := by omega
      go_wp2_with fail
      go_at_call 27
      refine (cs_numberG HG0 hBK true 1 (by decide) _ _ HCA.out).mono ?_
      rintro e wB ⟨sB1, hsB, HPsB1, rfl, hbB, qB, hcB⟩
      have HCB := Lib.hid hcB
      have HBB := Lib.hid (HBA.out.trans hbB)
      have hzB : sB1.size ≤ 84 := hsB
      have kB : ¬ 9223372036854775807 < sB1.size + x9.size := by omega
      clear hcB hbB hsB
      go_wp2_with fail
      go_at_call 27
      refine (cs_numberG HG0 hBK true 1 (by decide) _ _ HCB.out).mono ?_
      rintro e wC ⟨sC1, hsC, HPsC1, rfl, hbC, qC, hcC⟩
      have HCC := Lib.hid hcC
      have HBC := Lib.hid (HBB.out.trans hbC)
      have hzC : sC1.size ≤ 84 := hsC
      have kC : ¬ 9223372036854775807 < sB1.size + x9.size + sC1.size := by omega
      clear hcC hbC hsC
      go_wp2_with fail
      go_ret
      exact ⟨sB1 ++ x9 ++ sC1, Nat.le_trans (by simp; omega : _ ≤ 1500) (sB_ge _), Lib.hid (HP9.out _ _ _ HPsB1.out HPsC1.out), rfl, HBC.out, _, HCC.out⟩
  | succ d ih =>
    intro hd p w h
    have HIH := Lib.hid (ih (by omega))
    have HC := Lib.hid h
    have hKw : K < w.heap.size := h.lt
    have hnB := nB_le (d + 1) (by omega)
    have hsB := sB_le d (by omega)
    have hd0 : ((d : Int) + 1 == 0) = false := by rw [beq_eq_false_iff_ne]; omega
    have hd1 : (((d + 1 : Nat) : Int) == 0) = false := by rw [beq_eq_false_iff_ne]; omega
    have hd2 : ((d + 1 : Nat) : Int) - 1 = (d : Int) := by omega
    have hd3 : ¬ ((d + 1 : Nat) : Int) = 0 := by omega
    have hd4 : IntKind.i64.wrap (d : Int) = (d : Int) := IntWalk.i64_in _ (by omega)
    have hd5 : ¬ (d : Int) + 1 = 0 := by omega
    have HNR : Hid (∀ (p : Nat) (w : World), CoAt K D l p w → Calls Tryd.prog 27 #[.pointer (some ⟨K, 0, none⟩), .int .i64 ((d : Int) + 1), .bool true] w (RetTg B K D l (nB (d + 1)) (GN (d + 1)) w)) := Lib.hid (by
      have := cs_numberG HG0 (B := B) (K := K) (D := D) (l := l) hBK true (d + 1) hd
      rw [Int.natCast_add] at this
      exact this)
    clear h ih
    obtain ⟨w1, hw1⟩ : ∃ x, x = w := ⟨_, rfl⟩
    have HB2 : Hid (Below B w w) := Lib.hid (Below.refl B w)
    go_enter Tryd.func14, Tryd.ntmps14
    go_wp2_with fail
    go_at_call 21
    refine (next_st 5 (by decide) (by decide) hBK HC.out).mono ?_
    rintro e w4 ⟨v4, hv4, rfl, hb4, _, q4, hc4⟩
    have HC4 := Lib.hid hc4
    have HB4 := Lib.hid (Below.trans HB2.out hb4)
    have hKw4 : K < w4.heap.size := hc4.lt
    clear hc4 hb4
    by_cases h0 : v4 = 0
    · subst h0
      go_wp2_with fail
      rw [← op6A_lit]
      have hO : K ≠ w4.heap.size := by omega
      have hal : Below B w4 (w4.alloc (.cells op6A 9)) := (Below.refl B w4).alloc (by omega) _
      go_at_call 21
      refine (next_st 6 (by decide) (by decide) hBK (HC4.out.kept (World.grownBy_alloc w4 (.cells op6A 9) none) (by simp) (fun _ => by simp))).mono ?_
      rintro e w9 ⟨v9, hv9, rfl, hb9, hg9, q9, hc9⟩
      obtain ⟨x9, hx9⟩ : ∃ x, op6K v9 = x := ⟨_, rfl⟩
      have hcell9 : w9.cell? ⟨w4.heap.size, v9, none⟩ = some (.string x9) := by
        rw [cell_kept hg9 (by simp) (by intro h; injection h with h; exact hO h.symm), World.cell?_alloc_new, ← hx9]
        exact op6_at v9 hv9
      have hx9s : x9.size ≤ 4 := by rw [← hx9]; exact op6_size v9 hv9
      have HP9 : Hid (∀ d s r, GN 1 s → GN 1 r → GS d (s ++ x9 ++ r)) := Lib.hid fun d s r a b => by rw [← hx9]; exact HG0.cmp d _ s r hv9 a b
      have hv9I : (v9 : Int) < 6 := by omega
      have HC9 := Lib.hid hc9
      have HB9 := Lib.hid ((HB4.out).trans (hal.trans hb9))
      clear hb9 hg9 hc9 hx9 hal
      go_wp2_with fail
      go_at_call 21
      refine (next_st 6 (by decide) (by decide) hBK HC9.out).mono ?_
      rintro e wA ⟨vA, hvA, rfl, hbA, _, qA, hcA⟩
      have HCA := Lib.hid hcA
      have HBA := Lib.hid (HB9.out.trans hbA)
      have hKA : K < wA.heap.size := hcA.lt
      clear hbA hcA HC9 HB9 hv9I hv9 hcell9
      by_cases h1 : vA = 1
      · subst h1
        go_wp2_with fail
        rw [← tr2A_lit]
        have hO8 : K ≠ wA.heap.size := by omega
        have hal8 : Below B wA (wA.alloc (.cells tr2A 9)) := (Below.refl B wA).alloc (by omega) _
        go_at_call 21
        refine (next_st 2 (by decide) (by decide) hBK (HCA.out.kept (World.grownBy_alloc wA (.cells tr2A 9) none) (by simp) (fun _ => by simp))).mono ?_
        rintro e w8 ⟨v8, hv8, rfl, hb8, hg8, q8, hc8⟩
        obtain ⟨x8, hx8⟩ : ∃ x, tr2K v8 = x := ⟨_, rfl⟩
        have hcell8 : w8.cell? ⟨wA.heap.size, v8, none⟩ = some (.string x8) := by
          rw [cell_kept hg8 (by simp) (by intro h; injection h with h; exact hO8 h.symm), World.cell?_alloc_new, ← hx8]
          exact tr2_at v8 hv8
        have hx8s : x8.size ≤ 5 := by rw [← hx8]; exact tr2_size v8 hv8
        have HP8 : Hid (∀ d, GS d x8) := Lib.hid fun d => by rw [← hx8]; exact HG0.tf d _ hv8
        have hv8I : (v8 : Int) < 2 := by omega
        have HC8 := Lib.hid hc8
        have HB8 := Lib.hid ((HBA.out).trans (hal8.trans hb8))
        clear hb8 hg8 hc8 hx8 hal8
        go_wp2_with fail
        go_ret
        exact ⟨x8, Nat.le_trans hx8s (by have := sB_ge 0; first | exact Nat.le_trans (by decide) (sB_ge _)), Lib.hid (HP8.out _), rfl, HB8.out, _, HC8.out⟩
      · have h1I : ((vA : Int) == 1) = false := by rw [beq_eq_false_iff_ne]; omega
        have h1J : ¬ (vA : Int) = 1 := by omega
        go_wp2_with fail
        go_at_call 27
        refine (cs_numberG HG0 hBK true 1 (by decide) _ _ HCA.out).mono ?_
        rintro e wB ⟨sB1, hsB, HPsB1, rfl, hbB, qB, hcB⟩
        have HCB := Lib.hid hcB
        have HBB := Lib.hid (HBA.out.trans hbB)
        have hzB : sB1.size ≤ 84 := hsB
        have kB : ¬ 9223372036854775807 < sB1.size + x9.size := by omega
        clear hcB hbB hsB
        go_wp2_with fail
        go_at_call 27
        refine (cs_numberG HG0 hBK true 1 (by decide) _ _ HCB.out).mono ?_
        rintro e wC ⟨sC1, hsC, HPsC1, rfl, hbC, qC, hcC⟩
        have HCC := Lib.hid hcC
        have HBC := Lib.hid (HBB.out.trans hbC)
        have hzC : sC1.size ≤ 84 := hsC
        have kC : ¬ 9223372036854775807 < sB1.size + x9.size + sC1.size := by omega
        clear hcC hbC hsC
        go_wp2_with fail
        go_ret
        exact ⟨sB1 ++ x9 ++ sC1, Nat.le_trans (by simp; omega : _ ≤ 1500) (sB_ge _), Lib.hid (HP9.out _ _ _ HPsB1.out HPsC1.out), rfl, HBC.out, _, HCC.out⟩
    · have h0I : ((v4 : Int) == 0) = false := by rw [beq_eq_false_iff_ne]; omega
      have h0J : ¬ (v4 : Int) = 0 := by omega
      go_wp2_with fail
      go_at_call 21
      refine (next_st 6 (by decide) (by decide) hBK HC4.out).mono ?_
      rintro e w5 ⟨v5, hv5, rfl, hb5, _, q5, hc5⟩
      have HC5 := Lib.hid hc5
      have HB5 := Lib.hid (HB4.out.trans hb5)
      clear hc5 hb5 HC4
      have h6 : v5 = 0 ∨ v5 = 1 ∨ v5 = 2 ∨ v5 = 3 ∨ v5 = 4 ∨ v5 = 5 := by omega
      clear h0 h0I h0J hv5
      rcases h6 with rfl | rfl | rfl | rfl | rfl | rfl
      · go_wp2_with fail
        go_at_call 14
        refine (HIH.out _ _ HC5.out).mono ?_
        rintro e w6 ⟨s6, hs6, HPs6, rfl, hb6, q6, hc6⟩
        have HC6 := Lib.hid hc6
        have HB6 := Lib.hid (HB5.out.trans hb6)
        have hz6 : s6.size ≤ 60000 := Nat.le_trans hs6 hsB
        clear hc6 hb6
        have k0 : ¬ 9223372036854775807 < 2 + s6.size := by omega
        have k1 : ¬ 9223372036854775807 < 2 + s6.size + 1 := by omega
        go_wp2_with fail
        go_ret
        exact ⟨⟨#[33, 40]⟩ ++ s6 ++ ⟨#[41]⟩, by simp; show _ ≤ 2 * sB d + 10; omega, Lib.hid (HG0.not _ _ HPs6.out), rfl, HB6.out, _, HC6.out⟩
      · go_wp2_with fail
        go_at_call 14
        refine (HIH.out _ _ HC5.out).mono ?_
        rintro e w6 ⟨s6, hs6, HPs6, rfl, hb6, q6, hc6⟩
        have HC6 := Lib.hid hc6
        have HB6 := Lib.hid (HB5.out.trans hb6)
        have hz6 : s6.size ≤ 60000 := Nat.le_trans hs6 hsB
        clear hc6 hb6
        have k0 : ¬ 9223372036854775807 < 1 + s6.size := by omega
        have k1 : ¬ 9223372036854775807 < 1 + s6.size + 5 := by omega
        have k2 : ¬ 9223372036854775807 < 1 + s6.size + 5 + 1 := by omega
        go_wp2_with fail
        go_at_call 14
        refine (HIH.out _ _ HC6.out).mono ?_
        rintro e w7 ⟨s7, hs7, HPs7, rfl, hb7, q7, hc7⟩
        have HC7 := Lib.hid hc7
        have HB7 := Lib.hid (HB6.out.trans hb7)
        have hz7 : s7.size ≤ 60000 := Nat.le_trans hs7 hsB
        clear hc7 hb7
        have k8 : ¬ 9223372036854775807 < 1 + s6.size + 5 + 1 + s7.size := by omega
        have k9 : ¬ 9223372036854775807 < 1 + s6.size + 5 + 1 + s7.size + 1 := by omega
        go_wp2_with fail
        go_ret
        exact ⟨⟨#[40]⟩ ++ s6 ++ ⟨#[41, 32, 38, 38, 32]⟩ ++ ⟨#[40]⟩ ++ s7 ++ ⟨#[41]⟩, by simp; show _ ≤ 2 * sB d + 10; omega, Lib.hid (HG0.con _ _ _ HPs6.out HPs7.out), rfl, HB7.out, _, HC7.out⟩
      · go_wp2_with fail
        go_at_call 14
        refine (HIH.out _ _ HC5.out).mono ?_
        rintro e w6 ⟨s6, hs6, HPs6, rfl, hb6, q6, hc6⟩
        have HC6 := Lib.hid hc6
        have HB6 := Lib.hid (HB5.out.trans hb6)
        have hz6 : s6.size ≤ 60000 := Nat.le_trans hs6 hsB
        clear hc6 hb6
        have k0 : ¬ 9223372036854775807 < 1 + s6.size := by omega
        have k1 : ¬ 9223372036854775807 < 1 + s6.size + 5 := by omega
        have k2 : ¬ 9223372036854775807 < 1 + s6.size + 5 + 1 := by omega
        go_wp2_with fail
        go_at_call 14
        refine (HIH.out _ _ HC6.out).mono ?_
        rintro e w7 ⟨s7, hs7, HPs7, rfl, hb7, q7, hc7⟩
        have HC7 := Lib.hid hc7
        have HB7 := Lib.hid (HB6.out.trans hb7)
        have hz7 : s7.size ≤ 60000 := Nat.le_trans hs7 hsB
        clear hc7 hb7
        have k8 : ¬ 9223372036854775807 < 1 + s6.size + 5 + 1 + s7.size := by omega
        have k9 : ¬ 9223372036854775807 < 1 + s6.size + 5 + 1 + s7.size + 1 := by omega
        go_wp2_with fail
        go_ret
        exact ⟨⟨#[40]⟩ ++ s6 ++ ⟨#[41, 32, 124, 124, 32]⟩ ++ ⟨#[40]⟩ ++ s7 ++ ⟨#[41]⟩, by simp; show _ ≤ 2 * sB d + 10; omega, Lib.hid (HG0.dis _ _ _ HPs6.out HPs7.out), rfl, HB7.out, _, HC7.out⟩
      · go_wp2_with fail
        go_at_call 14
        refine (HIH.out _ _ HC5.out).mono ?_
        rintro e w6 ⟨s6, hs6, HPs6, rfl, hb6, q6, hc6⟩
        have HC6 := Lib.hid hc6
        have HB6 := Lib.hid (HB5.out.trans hb6)
        have hz6 : s6.size ≤ 60000 := Nat.le_trans hs6 hsB
        clear hc6 hb6
        have k0 : ¬ 9223372036854775807 < 1 + s6.size := by omega
        have k1 : ¬ 9223372036854775807 < 1 + s6.size + 5 := by omega
        have k2 : ¬ 9223372036854775807 < 1 + s6.size + 5 + 1 := by omega
        go_wp2_with fail
        go_at_call 14
        refine (HIH.out _ _ HC6.out).mono ?_
        rintro e w7 ⟨s7, hs7, HPs7, rfl, hb7, q7, hc7⟩
        have HC7 := Lib.hid hc7
        have HB7 := Lib.hid (HB6.out.trans hb7)
        have hz7 : s7.size ≤ 60000 := Nat.le_trans hs7 hsB
        clear hc7 hb7
        have k8 : ¬ 9223372036854775807 < 1 + s6.size + 5 + 1 + s7.size := by omega
        have k9 : ¬ 9223372036854775807 < 1 + s6.size + 5 + 1 + s7.size + 1 := by omega
        go_wp2_with fail
        go_ret
        exact ⟨⟨#[40]⟩ ++ s6 ++ ⟨#[41, 32, 45, 62, 32]⟩ ++ ⟨#[40]⟩ ++ s7 ++ ⟨#[41]⟩, by simp; show _ ≤ 2 * sB d + 10; omega, Lib.hid (HG0.imp _ _ _ HPs6.out HPs7.out), rfl, HB7.out, _, HC7.out⟩
      · go_wp2_with fail
        go_at_call 14
        refine (HIH.out _ _ HC5.out).mono ?_
        rintro e w6 ⟨s6, hs6, HPs6, rfl, hb6, q6, hc6⟩
        have HC6 := Lib.hid hc6
        have HB6 := Lib.hid (HB5.out.trans hb6)
        have hz6 : s6.size ≤ 60000 := Nat.le_trans hs6 hsB
        clear hc6 hb6
        have k0 : ¬ 9223372036854775807 < 1 + s6.size := by omega
        have k1 : ¬ 9223372036854775807 < 1 + s6.size + 5 := by omega
        have k2 : ¬ 9223372036854775807 < 1 + s6.size + 5 + 1 := by omega
        go_wp2_with fail
        go_at_call 14
        refine (HIH.out _ _ HC6.out).mono ?_
        rintro e w7 ⟨s7, hs7, HPs7, rfl, hb7, q7, hc7⟩
        have HC7 := Lib.hid hc7
        have HB7 := Lib.hid (HB6.out.trans hb7)
        have hz7 : s7.size ≤ 60000 := Nat.le_trans hs7 hsB
        clear hc7 hb7
        have k8 : ¬ 9223372036854775807 < 1 + s6.size + 5 + 1 + s7.size := by omega
        have k9 : ¬ 9223372036854775807 < 1 + s6.size + 5 + 1 + s7.size + 1 := by omega
        go_wp2_with fail
        go_ret
        exact ⟨⟨#[40]⟩ ++ s6 ++ ⟨#[41, 32, 61, 61, 32]⟩ ++ ⟨#[40]⟩ ++ s7 ++ ⟨#[41]⟩, by simp; show _ ≤ 2 * sB d + 10; omega, Lib.hid (HG0.eql _ _ _ HPs6.out HPs7.out), rfl, HB7.out, _, HC7.out⟩
      · go_wp2_with fail
        go_at_call 14
        refine (HIH.out _ _ HC5.out).mono ?_
        rintro e w6 ⟨s6, hs6, HPs6, rfl, hb6, q6, hc6⟩
        have HC6 := Lib.hid hc6
        have HB6 := Lib.hid (HB5.out.trans hb6)
        have hz6 : s6.size ≤ 60000 := Nat.le_trans hs6 hsB
        clear hc6 hb6
        have k0 : ¬ 9223372036854775807 < 1 + s6.size := by omega
        have k1 : ¬ 9223372036854775807 < 1 + s6.size + 1 := by omega
        go_wp2_with fail
        go_ret
        exact ⟨⟨#[40]⟩ ++ s6 ++ ⟨#[41]⟩, by simp; show _ ≤ 2 * sB d + 10; omega, Lib.hid (HG0.brk _ _ HPs6.out), rfl, HB6.out, _, HC6.out⟩
end Go.Proofs.YtodmkmoglchoeaaDoor
