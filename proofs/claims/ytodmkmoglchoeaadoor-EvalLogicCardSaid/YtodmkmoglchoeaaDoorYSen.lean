/- matchguardcase: number and Sentence. -/
import Derived.Test.YtodmkmoglchoeaaDoorLPcs
namespace Go.Proofs.YtodmkmoglchoeaaDoor
open Go.RowKit

def nuL : List ByteArray := [⟨#[97]⟩, ⟨#[98]⟩, ⟨#[100, 58, 58, 112, 114, 101, 102, 105, 120, 95, 108, 101, 110, 103, 116, 104]⟩, ⟨#[101, 58, 58, 109, 97, 115, 107]⟩, ⟨#[102, 58, 58, 104, 105, 103, 104]⟩, ⟨#[112, 114, 105, 111, 114, 105, 116, 121]⟩, ⟨#[48]⟩, ⟨#[49]⟩, ⟨#[49, 53]⟩, ⟨#[48, 120, 102, 102]⟩, ⟨#[51, 52, 48, 50, 56, 50, 51, 54, 54, 57, 50, 48, 57, 51, 56, 52, 54, 51, 52, 54, 51, 51, 55, 52, 54, 48, 55, 52, 51, 49, 55, 54, 56, 50, 49, 49, 52, 53, 53]⟩, ⟨#[120]⟩]
def nuK (i : Nat) : ByteArray := nuL.getD i ⟨#[]⟩
def nuA : Array Value := #[.string ⟨#[97]⟩, .string ⟨#[98]⟩, .string ⟨#[100, 58, 58, 112, 114, 101, 102, 105, 120, 95, 108, 101, 110, 103, 116, 104]⟩, .string ⟨#[101, 58, 58, 109, 97, 115, 107]⟩, .string ⟨#[102, 58, 58, 104, 105, 103, 104]⟩, .string ⟨#[112, 114, 105, 111, 114, 105, 116, 121]⟩, .string ⟨#[48]⟩, .string ⟨#[49]⟩, .string ⟨#[49, 53]⟩, .string ⟨#[48, 120, 102, 102]⟩, .string ⟨#[51, 52, 48, 50, 56, 50, 51, 54, 54, 57, 50, 48, 57, 51, 56, 52, 54, 51, 52, 54, 51, 51, 55, 52, 54, 48, 55, 52, 51, 49, 55, 54, 56, 50, 49, 49, 52, 53, 53]⟩, .string ⟨#[120]⟩]
theorem nuA_lit : nuA = #[.string ⟨#[97]⟩, .string ⟨#[98]⟩, .string ⟨#[100, 58, 58, 112, 114, 101, 102, 105, 120, 95, 108, 101, 110, 103, 116, 104]⟩, .string ⟨#[101, 58, 58, 109, 97, 115, 107]⟩, .string ⟨#[102, 58, 58, 104, 105, 103, 104]⟩, .string ⟨#[112, 114, 105, 111, 114, 105, 116, 121]⟩, .string ⟨#[48]⟩, .string ⟨#[49]⟩, .string ⟨#[49, 53]⟩, .string ⟨#[48, 120, 102, 102]⟩, .string ⟨#[51, 52, 48, 50, 56, 50, 51, 54, 54, 57, 50, 48, 57, 51, 56, 52, 54, 51, 52, 54, 51, 51, 55, 52, 54, 48, 55, 52, 51, 49, 55, 54, 56, 50, 49, 49, 52, 53, 53]⟩, .string ⟨#[120]⟩] := rfl
theorem nu_at : ∀ i, i < 12 → nuA[i]? = some (.string (nuK i)) := by
  intro i hi
  have h : i = 0 ∨ i = 1 ∨ i = 2 ∨ i = 3 ∨ i = 4 ∨ i = 5 ∨ i = 6 ∨ i = 7 ∨ i = 8 ∨ i = 9 ∨ i = 10 ∨ i = 11 := by omega
  rcases h with rfl | rfl | rfl | rfl | rfl | rfl | rfl | rfl | rfl | rfl | rfl | rfl <;> rfl
theorem nu_size : ∀ i, i < 12 → (nuK i).size ≤ 39 := by decide
def op6L : List ByteArray := [⟨#[32, 61, 61, 32]⟩, ⟨#[32, 33, 61, 32]⟩, ⟨#[32, 60, 32]⟩, ⟨#[60, 61]⟩, ⟨#[32, 62, 32]⟩, ⟨#[62, 61]⟩]
def op6K (i : Nat) : ByteArray := op6L.getD i ⟨#[]⟩
def op6A : Array Value := #[.string ⟨#[32, 61, 61, 32]⟩, .string ⟨#[32, 33, 61, 32]⟩, .string ⟨#[32, 60, 32]⟩, .string ⟨#[60, 61]⟩, .string ⟨#[32, 62, 32]⟩, .string ⟨#[62, 61]⟩]
theorem op6A_lit : op6A = #[.string ⟨#[32, 61, 61, 32]⟩, .string ⟨#[32, 33, 61, 32]⟩, .string ⟨#[32, 60, 32]⟩, .string ⟨#[60, 61]⟩, .string ⟨#[32, 62, 32]⟩, .string ⟨#[62, 61]⟩] := rfl
theorem op6_at : ∀ i, i < 6 → op6A[i]? = some (.string (op6K i)) := by
  intro i hi
  have h : i = 0 ∨ i = 1 ∨ i = 2 ∨ i = 3 ∨ i = 4 ∨ i = 5 := by omega
  rcases h with rfl | rfl | rfl | rfl | rfl | rfl <;> rfl
theorem op6_size : ∀ i, i < 6 → (op6K i).size ≤ 4 := by decide
def tr2L : List ByteArray := [⟨#[116, 114, 117, 101]⟩, ⟨#[102, 97, 108, 115, 101]⟩]
def tr2K (i : Nat) : ByteArray := tr2L.getD i ⟨#[]⟩
def tr2A : Array Value := #[.string ⟨#[116, 114, 117, 101]⟩, .string ⟨#[102, 97, 108, 115, 101]⟩]
theorem tr2A_lit : tr2A = #[.string ⟨#[116, 114, 117, 101]⟩, .string ⟨#[102, 97, 108, 115, 101]⟩] := rfl
theorem tr2_at : ∀ i, i < 2 → tr2A[i]? = some (.string (tr2K i)) := by
  intro i hi
  have h : i = 0 ∨ i = 1 := by omega
  rcases h with rfl | rfl <;> rfl
theorem tr2_size : ∀ i, i < 2 → (tr2K i).size ≤ 5 := by decide
/-- some text of at most N bytes; the choices behind it -/
def RetTx (B K D : Nat) (l : List Nat) (N : Nat) (w : World) (e : Ending) (w' : World) : Prop := ∃ s : ByteArray, s.size ≤ N ∧ e = .returned (.string s) ∧ Below B w w' ∧ ∃ q, CoAt K D l q w'
def NextS (B K D : Nat) (l : List Nat) (n : Nat) (w : World) (e : Ending) (w' : World) : Prop := ∃ v : Nat, v < n ∧ e = .returned (.int .i64 v) ∧ Below B w w' ∧ w.grownBy w' (some K) ∧ ∃ p, CoAt K D l p w'
theorem next_st {B K D p : Nat} {l : List Nat} {w : World} (n : Nat) (hn : 1 ≤ n) (hn2 : n ≤ 1000000) (hB : B ≤ K) (h : CoAt K D l p w) : Calls Tryd.prog 21 #[.pointer (some ⟨K, 0, none⟩), .int .i64 n] w (NextS B K D l n w) :=
  (next_any n hn hn2 h).mono fun e w' ⟨v, h1, h2, hg, h3⟩ => ⟨v, h1, h2, (Below.refl B w).grown hg (by have := h.lt; omega) (fun k hk => by injection hk with hk; omega), hg, h3⟩
def nB : Nat → Nat
  | 0 => 39
  | d + 1 => 2 * nB d + 6
def sB : Nat → Nat
  | 0 => 1500
  | d + 1 => 2 * sB d + 10
theorem nB_ge : ∀ d, 39 ≤ nB d
  | 0 => Nat.le_refl _
  | d + 1 => by have := nB_ge d; show 39 ≤ 2 * nB d + 6; omega
theorem nB_le (d : Nat) (h : d ≤ 5) : nB d ≤ 1434 := by
  have h6 : d = 0 ∨ d = 1 ∨ d = 2 ∨ d = 3 ∨ d = 4 ∨ d = 5 := by omega
  rcases h6 with rfl | rfl | rfl | rfl | rfl | rfl <;> decide
theorem sB_ge : ∀ d, 1500 ≤ sB d
  | 0 => Nat.le_refl _
  | d + 1 => by have := sB_ge d; show 1500 ≤ 2 * sB d + 10; omega
theorem sB_le (d : Nat) (h : d ≤ 5) : sB d ≤ 60000 := by
  have h6 : d = 0 ∨ d = 1 ∨ d = 2 ∨ d = 3 ∨ d = 4 ∨ d = 5 := by omega
  rcases h6 with rfl | rfl | rfl | rfl | rfl | rfl <;> decide
@[simp] theorem sz1 (a : UInt8) : (⟨#[a]⟩ : ByteArray).size = 1 := rfl
@[simp] theorem sz2 (a b : UInt8) : (⟨#[a, b]⟩ : ByteArray).size = 2 := rfl
@[simp] theorem sz3 (a b c : UInt8) : (⟨#[a, b, c]⟩ : ByteArray).size = 3 := rfl
@[simp] theorem sz5 (a b c d e : UInt8) : (⟨#[a, b, c, d, e]⟩ : ByteArray).size = 5 := rfl
set_option maxRecDepth 100000 in
set_option maxHeartbeats 8000000 in
theorem cs_number {B K D : Nat} {l : List Nat} (hBK : B ≤ K) (g : Bool) : ∀ (d : Nat), d ≤ 5 → ∀ (p : Nat) (w : World), CoAt K D l p w → Calls Tryd.prog 27 #[.pointer (some ⟨K, 0, none⟩), .int .i64 (d : Nat), .bool g] w (RetTx B K D l (nB d) w) := by
  intro d
  induction d with
  | zero =>
    intro _ p w h
    have HC := Lib.hid h
    have hKw : K < w.heap.size := h.lt
    clear h
    go_enter Tryd.func27, Tryd.ntmps27
    go_wp2_with fail
    rw [← nuA_lit]
    have hO : K ≠ w.heap.size := by omega
    have hal : Below B w (w.alloc (.cells nuA 9)) := (Below.refl B w).alloc (by omega) _
    go_at_call 21
    refine (next_st 12 (by decide) (by decide) hBK (HC.out.kept (World.grownBy_alloc w (.cells nuA 9) none) (by simp) (fun _ => by simp))).mono ?_
    rintro e w9 ⟨v9, hv9, rfl, hb9, hg9, q9, hc9⟩
    obtain ⟨x9, hx9⟩ : ∃ x, nuK v9 = x := ⟨_, rfl⟩
    have hcell9 : w9.cell? ⟨w.heap.size, v9, none⟩ = some (.string x9) := by
      rw [cell_kept hg9 (by simp) (by intro h; injection h with h; exact hO h.symm), World.cell?_alloc_new, ← hx9]
      exact nu_at v9 hv9
    have hx9s : x9.size ≤ 39 := by rw [← hx9]; exact nu_size v9 hv9
    have hv9I : (v9 : Int) < 12 := by omega
    have HC9 := Lib.hid hc9
    have HB9 := Lib.hid ((Below.refl B w).trans (hal.trans hb9))
    clear hb9 hg9 hc9 hx9 hal
    go_wp2_with fail
    go_ret
    exact ⟨x9, Nat.le_trans hx9s (nB_ge _), rfl, HB9.out, _, HC9.out⟩
  | succ d ih =>
    intro hd p w h
    have HIH := Lib.hid (ih (by omega))
    have HC := Lib.hid h
    have hKw : K < w.heap.size := h.lt
    have hnB := nB_le d (by omega)
    have hd0 : ((d : Int) + 1 == 0) = false := by rw [beq_eq_false_iff_ne]; omega
    have hd1 : (((d + 1 : Nat) : Int) == 0) = false := by rw [beq_eq_false_iff_ne]; omega
    have hd2 : ((d + 1 : Nat) : Int) - 1 = (d : Int) := by omega
    have hd3 : ¬ ((d + 1 : Nat) : Int) = 0 := by omega
    have hd4 : IntKind.i64.wrap (d : Int) = (d : Int) := IntWalk.i64_in _ (by omega)
    have hd5 : ¬ (d : Int) + 1 = 0 := by omega
    clear h ih
    go_enter Tryd.func27, Tryd.ntmps27
    go_wp2_with fail
    go_at_call 21
    refine (next_st 3 (by decide) (by decide) hBK HC.out).mono ?_
    rintro e w1 ⟨v1, hv1, rfl, hb1, _, q1, hc1⟩
    have HC1 := Lib.hid hc1
    have HB1 := Lib.hid hb1
    have hKw1 : K < w1.heap.size := hc1.lt
    clear hc1 hb1 HC
    by_cases h0 : v1 = 0
    · subst h0
      go_wp2_with fail
      rw [← nuA_lit]
      have hO : K ≠ w1.heap.size := by omega
      have hal : Below B w1 (w1.alloc (.cells nuA 9)) := (Below.refl B w1).alloc (by omega) _
      go_at_call 21
      refine (next_st 12 (by decide) (by decide) hBK (HC1.out.kept (World.grownBy_alloc w1 (.cells nuA 9) none) (by simp) (fun _ => by simp))).mono ?_
      rintro e w9 ⟨v9, hv9, rfl, hb9, hg9, q9, hc9⟩
      obtain ⟨x9, hx9⟩ : ∃ x, nuK v9 = x := ⟨_, rfl⟩
      have hcell9 : w9.cell? ⟨w1.heap.size, v9, none⟩ = some (.string x9) := by
        rw [cell_kept hg9 (by simp) (by intro h; injection h with h; exact hO h.symm), World.cell?_alloc_new, ← hx9]
        exact nu_at v9 hv9
      have hx9s : x9.size ≤ 39 := by rw [← hx9]; exact nu_size v9 hv9
      have hv9I : (v9 : Int) < 12 := by omega
      have HC9 := Lib.hid hc9
      have HB9 := Lib.hid ((HB1.out).trans (hal.trans hb9))
      clear hb9 hg9 hc9 hx9 hal
      go_wp2_with fail
      go_ret
      exact ⟨x9, Nat.le_trans hx9s (nB_ge _), rfl, HB9.out, _, HC9.out⟩
    · have h0I : ((v1 : Int) == 0) = false := by rw [beq_eq_false_iff_ne]; omega
      have h0J : ¬ (v1 : Int) = 0 := by omega
      go_wp2_with fail
      go_at_call 21
      refine (next_st 4 (by decide) (by decide) hBK HC1.out).mono ?_
      rintro e w2 ⟨v2, hv2, rfl, hb2, _, q2, hc2⟩
      have HC2 := Lib.hid hc2
      have HB2 := Lib.hid (HB1.out.trans hb2)
      clear hc2 hb2 HC1
      have h4 : v2 = 0 ∨ v2 = 1 ∨ v2 = 2 ∨ v2 = 3 := by omega
      clear h0 h0I h0J hv2
      rcases h4 with rfl | rfl | rfl | rfl
      · go_wp2_with fail
        go_at_call 27
        refine (HIH.out _ _ HC2.out).mono ?_
        rintro e w3 ⟨s3, hs3, rfl, hb3, q3, hc3⟩
        have HC3 := Lib.hid hc3
        have HB3 := Lib.hid (HB2.out.trans hb3)
        have hz3 : s3.size ≤ 1434 := Nat.le_trans hs3 hnB
        clear hc3 hb3
        have k1 : ¬ 9223372036854775807 < 1 + s3.size := by omega
        have k2 : ¬ 9223372036854775807 < 1 + s3.size + 1 := by omega
        go_wp2_with fail
        go_ret
        exact ⟨_, by simp; show _ ≤ 2 * nB d + 6; omega, rfl, HB3.out, _, HC3.out⟩
      · go_wp2_with fail
        go_at_call 27
        refine (HIH.out _ _ HC2.out).mono ?_
        rintro e w3 ⟨s3, hs3, rfl, hb3, q3, hc3⟩
        have HC3 := Lib.hid hc3
        have HB3 := Lib.hid (HB2.out.trans hb3)
        have hz3 : s3.size ≤ 1434 := Nat.le_trans hs3 hnB
        clear hc3 hb3
        have k1 : ¬ 9223372036854775807 < 1 + s3.size := by omega
        have k2 : ¬ 9223372036854775807 < 1 + s3.size + 1 := by omega
        go_wp2_with fail
        go_ret
        exact ⟨_, by simp; show _ ≤ 2 * nB d + 6; omega, rfl, HB3.out, _, HC3.out⟩
      · go_wp2_with fail
        go_at_call 27
        refine (HIH.out _ _ HC2.out).mono ?_
        rintro e w3 ⟨s3, hs3, rfl, hb3, q3, hc3⟩
        have HC3 := Lib.hid hc3
        have HB3 := Lib.hid (HB2.out.trans hb3)
        have hz3 : s3.size ≤ 1434 := Nat.le_trans hs3 hnB
        clear hc3 hb3
        have k1 : ¬ 9223372036854775807 < s3.size + 3 := by omega
        have k2 : ¬ 9223372036854775807 < s3.size + 3 + 1 := by omega
        go_wp2_with fail
        go_at_call 27
        refine (HIH.out _ _ HC3.out).mono ?_
        rintro e w4 ⟨s4, hs4, rfl, hb4, q4, hc4⟩
        have HC4 := Lib.hid hc4
        have HB4 := Lib.hid (HB3.out.trans hb4)
        have hz4 : s4.size ≤ 1434 := Nat.le_trans hs4 hnB
        clear hc4 hb4
        have k3 : ¬ 9223372036854775807 < s3.size + 3 + s4.size := by omega
        have k4 : ¬ 9223372036854775807 < s3.size + 3 + 1 + s4.size := by omega
        have k5 : ¬ 9223372036854775807 < s3.size + 3 + 1 + s4.size + 1 := by omega
        go_wp2_with fail
        go_ret
        exact ⟨_, by simp; show _ ≤ 2 * nB d + 6; omega, rfl, HB4.out, _, HC4.out⟩
      · go_wp2_with fail
        go_at_call 27
        refine (HIH.out _ _ HC2.out).mono ?_
        rintro e w3 ⟨s3, hs3, rfl, hb3, q3, hc3⟩
        have HC3 := Lib.hid hc3
        have HB3 := Lib.hid (HB2.out.trans hb3)
        have hz3 : s3.size ≤ 1434 := Nat.le_trans hs3 hnB
        clear hc3 hb3
        have k1 : ¬ 9223372036854775807 < s3.size + 3 := by omega
        have k2 : ¬ 9223372036854775807 < s3.size + 3 + 1 := by omega
        go_wp2_with fail
        go_at_call 27
        refine (HIH.out _ _ HC3.out).mono ?_
        rintro e w4 ⟨s4, hs4, rfl, hb4, q4, hc4⟩
        have HC4 := Lib.hid hc4
        have HB4 := Lib.hid (HB3.out.trans hb4)
        have hz4 : s4.size ≤ 1434 := Nat.le_trans hs4 hnB
        clear hc4 hb4
        have k3 : ¬ 9223372036854775807 < s3.size + 3 + s4.size := by omega
        have k4 : ¬ 9223372036854775807 < s3.size + 3 + 1 + s4.size := by omega
        have k5 : ¬ 9223372036854775807 < s3.size + 3 + 1 + s4.size + 1 := by omega
        go_wp2_with fail
        go_ret
        exact ⟨_, by simp; show _ ≤ 2 * nB d + 6; omega, rfl, HB4.out, _, HC4.out⟩
set_option maxRecDepth 100000 in
set_option maxHeartbeats 8000000 in
theorem cs_sentence {B K D : Nat} {l : List Nat} (hBK : B ≤ K) (g : Bool) : ∀ (d : Nat), d ≤ 5 → ∀ (p : Nat) (w : World), CoAt K D l p w → Calls Tryd.prog 14 #[.pointer (some ⟨K, 0, none⟩), .int .i64 (d : Nat), .bool g] w (RetTx B K D l (sB d) w) := by
  intro d
  induction d with
  | zero =>
    intro _ p w h
    have HC := Lib.hid h
    have hKw : K < w.heap.size := h.lt
    clear h
    cases g
    · go_enter Tryd.func14, Tryd.ntmps14
      go_wp2_with fail
      go_at_call 21
      refine (next_st 8 (by decide) (by decide) hBK HC.out).mono ?_
      rintro e w1 ⟨v1, hv1, rfl, hb1, _, q1, hc1⟩
      have HC1 := Lib.hid hc1
      have HB1 := Lib.hid hb1
      have hKw1 : K < w1.heap.size := hc1.lt
      clear hc1 hb1 HC
      by_cases h8 : v1 = 1
      · subst h8
        go_wp2_with fail
        go_at_call 27
        refine (cs_number hBK false 0 (by decide) _ _ HC1.out).mono ?_
        rintro e w2 ⟨s2, hs2, rfl, hb2, q2, hc2⟩
        have HC2 := Lib.hid hc2
        have HB2 := Lib.hid (HB1.out.trans hb2)
        clear hc2 hb2
        go_wp2_with fail
        go_ret
        exact ⟨s2, Nat.le_trans hs2 (by decide), rfl, HB2.out, _, HC2.out⟩
      · have h8I : ((v1 : Int) == 1) = false := by rw [beq_eq_false_iff_ne]; omega
        have h8J : ¬ (v1 : Int) = 1 := by omega
        obtain ⟨g, hg⟩ : ∃ g, g = false := ⟨_, rfl⟩
        have HG := Lib.hid hg
        go_wp2_with fail
        rw [← op6A_lit]
        have hO : K ≠ w1.heap.size := by omega
        have hal : Below B w1 (w1.alloc (.cells op6A 9)) := (Below.refl B w1).alloc (by omega) _
        go_at_call 21
        refine (next_st 6 (by decide) (by decide) hBK (HC1.out.kept (World.grownBy_alloc w1 (.cells op6A 9) none) (by simp) (fun _ => by simp))).mono ?_
        rintro e w9 ⟨v9, hv9, rfl, hb9, hg9, q9, hc9⟩
        obtain ⟨x9, hx9⟩ : ∃ x, op6K v9 = x := ⟨_, rfl⟩
        have hcell9 : w9.cell? ⟨w1.heap.size, v9, none⟩ = some (.string x9) := by
          rw [cell_kept hg9 (by simp) (by intro h; injection h with h; exact hO h.symm), World.cell?_alloc_new, ← hx9]
          exact op6_at v9 hv9
        have hx9s : x9.size ≤ 4 := by rw [← hx9]; exact op6_size v9 hv9
        have hv9I : (v9 : Int) < 6 := by omega
        have HC9 := Lib.hid hc9
        have HB9 := Lib.hid ((HB1.out).trans (hal.trans hb9))
        clear hb9 hg9 hc9 hx9 hal
        go_wp2_with fail
        go_at_call 21
        refine (next_st 6 (by decide) (by decide) hBK HC9.out).mono ?_
        rintro e wA ⟨vA, hvA, rfl, hbA, _, qA, hcA⟩
        have HCA := Lib.hid hcA
        have HBA := Lib.hid (HB9.out.trans hbA)
        have hKA : K < wA.heap.size := hcA.lt
        clear hbA hcA HC9 HB9 hv9I hv9 hcell9
        by_cases h1 : vA = 1
        · subst h1
          go_wp2_with fail
          rw [← tr2A_lit]
          have hO8 : K ≠ wA.heap.size := by omega
          have hal8 : Below B wA (wA.alloc (.cells tr2A 9)) := (Below.refl B wA).alloc (by omega) _
          go_at_call 21
          refine (next_st 2 (by decide) (by decide) hBK (HCA.out.kept (World.grownBy_alloc wA (.cells tr2A 9) none) (by simp) (fun _ => by simp))).mono ?_
          rintro e w8 ⟨v8, hv8, rfl, hb8, hg8, q8, hc8⟩
          obtain ⟨x8, hx8⟩ : ∃ x, tr2K v8 = x := ⟨_, rfl⟩
          have hcell8 : w8.cell? ⟨wA.heap.size, v8, none⟩ = some (.string x8) := by
            rw [cell_kept hg8 (by simp) (by intro h; injection h with h; exact hO8 h.symm), World.cell?_alloc_new, ← hx8]
            exact tr2_at v8 hv8
          have hx8s : x8.size ≤ 5 := by rw [← hx8]; exact tr2_size v8 hv8
          have hv8I : (v8 : Int) < 2 := by omega
          have HC8 := Lib.hid hc8
          have HB8 := Lib.hid ((HBA.out).trans (hal8.trans hb8))
          clear hb8 hg8 hc8 hx8 hal8
          go_wp2_with fail
          go_ret
          exact ⟨x8, Nat.le_trans hx8s (by have := sB_ge 0; first | exact Nat.le_trans (by decide) (sB_ge _)), rfl, HB8.out, _, HC8.out⟩
        · have h1I : ((vA : Int) == 1) = false := by rw [beq_eq_false_iff_ne]; omega
          have h1J : ¬ (vA : Int) = 1 := by omega
          go_wp2_with fail
          go_at_call 27
          refine (cs_number hBK false 1 (by decide) _ _ HCA.out).mono ?_
          rintro e wB ⟨sB1, hsB, rfl, hbB, qB, hcB⟩
          have HCB := Lib.hid hcB
          have HBB := Lib.hid (HBA.out.trans hbB)
          have hzB : sB1.size ≤ 84 := hsB
          have kB : ¬ 9223372036854775807 < sB1.size + x9.size := by omega
          clear hcB hbB hsB
          go_wp2_with fail
          go_at_call 27
          refine (cs_number hBK false 1 (by decide) _ _ HCB.out).mono ?_
          rintro e wC ⟨sC1, hsC, rfl, hbC, qC, hcC⟩
          have HCC := Lib.hid hcC
          have HBC := Lib.hid (HBB.out.trans hbC)
          have hzC : sC1.size ≤ 84 := hsC
          have kC : ¬ 9223372036854775807 < sB1.size + x9.size + sC1.size := by omega
          clear hcC hbC hsC
          go_wp2_with fail
          go_ret
          exact ⟨_, Nat.le_trans (by simp; omega : _ ≤ 1500) (sB_ge _), rfl, HBC.out, _, HCC.out⟩
    · go_enter Tryd.func14, Tryd.ntmps14
      go_wp2_with fail
      rw [← op6A_lit]
      have hO : K ≠ w.heap.size := by omega
      have hal : Below B w (w.alloc (.cells op6A 9)) := (Below.refl B w).alloc (by omega) _
      go_at_call 21
      refine (next_st 6 (by decide) (by decide) hBK (HC.out.kept (World.grownBy_alloc w (.cells op6A 9) none) (by simp) (fun _ => by simp))).mono ?_
      rintro e w9 ⟨v9, hv9, rfl, hb9, hg9, q9, hc9⟩
      obtain ⟨x9, hx9⟩ : ∃ x, op6K v9 = x := ⟨_, rfl⟩
      have hcell9 : w9.cell? ⟨w.heap.size, v9, none⟩ = some (.string x9) := by
        rw [cell_kept hg9 (by simp) (by intro h; injection h with h; exact hO h.symm), World.cell?_alloc_new, ← hx9]
        exact op6_at v9 hv9
      have hx9s : x9.size ≤ 4 := by rw [← hx9]; exact op6_size v9 hv9
      have hv9I : (v9 : Int) < 6 := by omega
      have HC9 := Lib.hid hc9
      have HB9 := Lib.hid ((Below.refl B w).trans (hal.trans hb9))
      clear hb9 hg9 hc9 hx9 hal
      go_wp2_with fail
      go_at_call 21
      refine (next_st 6 (by decide) (by decide) hBK HC9.out).mono ?_
      rintro e wA ⟨vA, hvA, rfl, hbA, _, qA, hcA⟩
      have HCA := Lib.hid hcA
      have HBA := Lib.hid (HB9.out.trans hbA)
      have hKA : K < wA.heap.size := hcA.lt
      clear hbA hcA HC9 HB9 hv9I hv9 hcell9
      by_cases h1 : vA = 1
      · subst h1
        go_wp2_with fail
        rw [← tr2A_lit]
        have hO8 : K ≠ wA.heap.size := by omega
        have hal8 : Below B wA (wA.alloc (.cells tr2A 9)) := (Below.refl B wA).alloc (by omega) _
        go_at_call 21
        refine (next_st 2 (by decide) (by decide) hBK (HCA.out.kept (World.grownBy_alloc wA (.cells tr2A 9) none) (by simp) (fun _ => by simp))).mono ?_
        rintro e w8 ⟨v8, hv8, rfl, hb8, hg8, q8, hc8⟩
        obtain ⟨x8, hx8⟩ : ∃ x, tr2K v8 = x := ⟨_, rfl⟩
        have hcell8 : w8.cell? ⟨wA.heap.size, v8, none⟩ = some (.string x8) := by
          rw [cell_kept hg8 (by simp) (by intro h; injection h with h; exact hO8 h.symm), World.cell?_alloc_new, ← hx8]
          exact tr2_at v8 hv8
        have hx8s : x8.size ≤ 5 := by rw [← hx8]; exact tr2_size v8 hv8
        have hv8I : (v8 : Int) < 2 := by omega
        have HC8 := Lib.hid hc8
        have HB8 := Lib.hid ((HBA.out).trans (hal8.trans hb8))
        clear hb8 hg8 hc8 hx8 hal8
        go_wp2_with fail
        go_ret
        exact ⟨x8, Nat.le_trans hx8s (by have := sB_ge 0; first | exact Nat.le_trans (by decide) (sB_ge _)), rfl, HB8.out, _, HC8.out⟩
      · have h1I : ((vA : Int) == 1) = false := by rw [beq_eq_false_iff_ne]; omega
        have h1J : ¬ (vA : Int) = 1 := by omega
        go_wp2_with fail
        go_at_call 27
        refine (cs_number hBK true 1 (by decide) _ _ HCA.out).mono ?_
        rintro e wB ⟨sB1, hsB, rfl, hbB, qB, hcB⟩
        have HCB := Lib.hid hcB
        have HBB := Lib.hid (HBA.out.trans hbB)
        have hzB : sB1.size ≤ 84 := hsB
        have kB : ¬ 9223372036854775807 < sB1.size + x9.size := by omega
        clear hcB hbB hsB
        go_wp2_with fail
        go_at_call 27
        refine (cs_number hBK true 1 (by decide) _ _ HCB.out).mono ?_
        rintro e wC ⟨sC1, hsC, rfl, hbC, qC, hcC⟩
        have HCC := Lib.hid hcC
        have HBC := Lib.hid (HBB.out.trans hbC)
        have hzC : sC1.size ≤ 84 := hsC
        have kC : ¬ 9223372036854775807 < sB1.size + x9.size + sC1.size := by omega
        clear hcC hbC hsC
        go_wp2_with fail
        go_ret
        exact ⟨_, Nat.le_trans (by simp; omega : _ ≤ 1500) (sB_ge _), rfl, HBC.out, _, HCC.out⟩
  | succ d ih =>
    intro hd p w h
    have HIH := Lib.hid (ih (by omega))
    have HC := Lib.hid h
    have hKw : K < w.heap.size := h.lt
    have hnB := nB_le (d + 1) (by omega)
    have hsB := sB_le d (by omega)
    have hd0 : ((d : Int) + 1 == 0) = false := by rw [beq_eq_false_iff_ne]; omega
    have hd1 : (((d + 1 : Nat) : Int) == 0) = false := by rw [beq_eq_false_iff_ne]; omega
    have hd2 : ((d + 1 : Nat) : Int) - 1 = (d : Int) := by omega
    have hd3 : ¬ ((d + 1 : Nat) : Int) = 0 := by omega
    have hd4 : IntKind.i64.wrap (d : Int) = (d : Int) := IntWalk.i64_in _ (by omega)
    have hd5 : ¬ (d : Int) + 1 = 0 := by omega
    have HNR : Hid (∀ (p : Nat) (w : World), CoAt K D l p w → Calls Tryd.prog 27 #[.pointer (some ⟨K, 0, none⟩), .int .i64 ((d : Int) + 1), .bool g] w (RetTx B K D l (nB (d + 1)) w)) := Lib.hid (by
      have := cs_number (B := B) (K := K) (D := D) (l := l) hBK g (d + 1) hd
      rw [Int.natCast_add] at this
      exact this)
    clear h ih
    obtain ⟨w1, hw1⟩ : ∃ x, x = w := ⟨_, rfl⟩
    cases g
    · go_enter Tryd.func14, Tryd.ntmps14
      go_wp2_with fail
      go_at_call 21
      refine (next_st 8 (by decide) (by decide) hBK HC.out).mono ?_
      rintro e w2 ⟨v2, hv2, rfl, hb2, _, q2, hc2⟩
      have HC2 := Lib.hid hc2
      have HB2 := Lib.hid hb2
      have hKw2 : K < w2.heap.size := hc2.lt
      clear hc2 hb2 HC
      by_cases h8 : v2 = 1
      · subst h8
        go_wp2_with fail
        go_at_call 27
        refine (HNR.out _ _ HC2.out).mono ?_
        rintro e w3 ⟨s3, hs3, rfl, hb3, q3, hc3⟩
        have HC3 := Lib.hid hc3
        have HB3 := Lib.hid (HB2.out.trans hb3)
        clear hc3 hb3
        go_wp2_with fail
        go_ret
        exact ⟨s3, Nat.le_trans hs3 (Nat.le_trans hnB (Nat.le_trans (by decide) (sB_ge _))), rfl, HB3.out, _, HC3.out⟩
      · have h8I : ((v2 : Int) == 1) = false := by rw [beq_eq_false_iff_ne]; omega
        have h8J : ¬ (v2 : Int) = 1 := by omega
        go_wp2_with fail
        go_at_call 21
        refine (next_st 5 (by decide) (by decide) hBK HC2.out).mono ?_
        rintro e w4 ⟨v4, hv4, rfl, hb4, _, q4, hc4⟩
        have HC4 := Lib.hid hc4
        have HB4 := Lib.hid (Below.trans HB2.out hb4)
        have hKw4 : K < w4.heap.size := hc4.lt
        clear hc4 hb4
        by_cases h0 : v4 = 0
        · subst h0
          go_wp2_with fail
          rw [← op6A_lit]
          have hO : K ≠ w4.heap.size := by omega
          have hal : Below B w4 (w4.alloc (.cells op6A 9)) := (Below.refl B w4).alloc (by omega) _
          go_at_call 21
          refine (next_st 6 (by decide) (by decide) hBK (HC4.out.kept (World.grownBy_alloc w4 (.cells op6A 9) none) (by simp) (fun _ => by simp))).mono ?_
          rintro e w9 ⟨v9, hv9, rfl, hb9, hg9, q9, hc9⟩
          obtain ⟨x9, hx9⟩ : ∃ x, op6K v9 = x := ⟨_, rfl⟩
          have hcell9 : w9.cell? ⟨w4.heap.size, v9, none⟩ = some (.string x9) := by
            rw [cell_kept hg9 (by simp) (by intro h; injection h with h; exact hO h.symm), World.cell?_alloc_new, ← hx9]
            exact op6_at v9 hv9
          have hx9s : x9.size ≤ 4 := by rw [← hx9]; exact op6_size v9 hv9
          have hv9I : (v9 : Int) < 6 := by omega
          have HC9 := Lib.hid hc9
          have HB9 := Lib.hid ((HB4.out).trans (hal.trans hb9))
          clear hb9 hg9 hc9 hx9 hal
          go_wp2_with fail
          go_at_call 21
          refine (next_st 6 (by decide) (by decide) hBK HC9.out).mono ?_
          rintro e wA ⟨vA, hvA, rfl, hbA, _, qA, hcA⟩
          have HCA := Lib.hid hcA
          have HBA := Lib.hid (HB9.out.trans hbA)
          have hKA : K < wA.heap.size := hcA.lt
          clear hbA hcA HC9 HB9 hv9I hv9 hcell9
          by_cases h1 : vA = 1
          · subst h1
            go_wp2_with fail
            rw [← tr2A_lit]
            have hO8 : K ≠ wA.heap.size := by omega
            have hal8 : Below B wA (wA.alloc (.cells tr2A 9)) := (Below.refl B wA).alloc (by omega) _
            go_at_call 21
            refine (next_st 2 (by decide) (by decide) hBK (HCA.out.kept (World.grownBy_alloc wA (.cells tr2A 9) none) (by simp) (fun _ => by simp))).mono ?_
            rintro e w8 ⟨v8, hv8, rfl, hb8, hg8, q8, hc8⟩
            obtain ⟨x8, hx8⟩ : ∃ x, tr2K v8 = x := ⟨_, rfl⟩
            have hcell8 : w8.cell? ⟨wA.heap.size, v8, none⟩ = some (.string x8) := by
              rw [cell_kept hg8 (by simp) (by intro h; injection h with h; exact hO8 h.symm), World.cell?_alloc_new, ← hx8]
              exact tr2_at v8 hv8
            have hx8s : x8.size ≤ 5 := by rw [← hx8]; exact tr2_size v8 hv8
            have hv8I : (v8 : Int) < 2 := by omega
            have HC8 := Lib.hid hc8
            have HB8 := Lib.hid ((HBA.out).trans (hal8.trans hb8))
            clear hb8 hg8 hc8 hx8 hal8
            go_wp2_with fail
            go_ret
            exact ⟨x8, Nat.le_trans hx8s (by have := sB_ge 0; first | exact Nat.le_trans (by decide) (sB_ge _)), rfl, HB8.out, _, HC8.out⟩
          · have h1I : ((vA : Int) == 1) = false := by rw [beq_eq_false_iff_ne]; omega
            have h1J : ¬ (vA : Int) = 1 := by omega
            go_wp2_with fail
            go_at_call 27
            refine (cs_number hBK false 1 (by decide) _ _ HCA.out).mono ?_
            rintro e wB ⟨sB1, hsB, rfl, hbB, qB, hcB⟩
            have HCB := Lib.hid hcB
            have HBB := Lib.hid (HBA.out.trans hbB)
            have hzB : sB1.size ≤ 84 := hsB
            have kB : ¬ 9223372036854775807 < sB1.size + x9.size := by omega
            clear hcB hbB hsB
            go_wp2_with fail
            go_at_call 27
            refine (cs_number hBK false 1 (by decide) _ _ HCB.out).mono ?_
            rintro e wC ⟨sC1, hsC, rfl, hbC, qC, hcC⟩
            have HCC := Lib.hid hcC
            have HBC := Lib.hid (HBB.out.trans hbC)
            have hzC : sC1.size ≤ 84 := hsC
            have kC : ¬ 9223372036854775807 < sB1.size + x9.size + sC1.size := by omega
            clear hcC hbC hsC
            go_wp2_with fail
            go_ret
            exact ⟨_, Nat.le_trans (by simp; omega : _ ≤ 1500) (sB_ge _), rfl, HBC.out, _, HCC.out⟩
        · have h0I : ((v4 : Int) == 0) = false := by rw [beq_eq_false_iff_ne]; omega
          have h0J : ¬ (v4 : Int) = 0 := by omega
          go_wp2_with fail
          go_at_call 21
          refine (next_st 6 (by decide) (by decide) hBK HC4.out).mono ?_
          rintro e w5 ⟨v5, hv5, rfl, hb5, _, q5, hc5⟩
          have HC5 := Lib.hid hc5
          have HB5 := Lib.hid (HB4.out.trans hb5)
          clear hc5 hb5 HC4
          have h6 : v5 = 0 ∨ v5 = 1 ∨ v5 = 2 ∨ v5 = 3 ∨ v5 = 4 ∨ v5 = 5 := by omega
          clear h0 h0I h0J hv5
          rcases h6 with rfl | rfl | rfl | rfl | rfl | rfl
          · go_wp2_with fail
            go_at_call 14
            refine (HIH.out _ _ HC5.out).mono ?_
            rintro e w6 ⟨s6, hs6, rfl, hb6, q6, hc6⟩
            have HC6 := Lib.hid hc6
            have HB6 := Lib.hid (HB5.out.trans hb6)
            have hz6 : s6.size ≤ 60000 := Nat.le_trans hs6 hsB
            clear hc6 hb6
            have k0 : ¬ 9223372036854775807 < 2 + s6.size := by omega
            have k1 : ¬ 9223372036854775807 < 2 + s6.size + 1 := by omega
            go_wp2_with fail
            go_ret
            exact ⟨_, by simp; show _ ≤ 2 * sB d + 10; omega, rfl, HB6.out, _, HC6.out⟩
          · go_wp2_with fail
            go_at_call 14
            refine (HIH.out _ _ HC5.out).mono ?_
            rintro e w6 ⟨s6, hs6, rfl, hb6, q6, hc6⟩
            have HC6 := Lib.hid hc6
            have HB6 := Lib.hid (HB5.out.trans hb6)
            have hz6 : s6.size ≤ 60000 := Nat.le_trans hs6 hsB
            clear hc6 hb6
            have k0 : ¬ 9223372036854775807 < 1 + s6.size := by omega
            have k1 : ¬ 9223372036854775807 < 1 + s6.size + 5 := by omega
            have k2 : ¬ 9223372036854775807 < 1 + s6.size + 5 + 1 := by omega
            go_wp2_with fail
            go_at_call 14
            refine (HIH.out _ _ HC6.out).mono ?_
            rintro e w7 ⟨s7, hs7, rfl, hb7, q7, hc7⟩
            have HC7 := Lib.hid hc7
            have HB7 := Lib.hid (HB6.out.trans hb7)
            have hz7 : s7.size ≤ 60000 := Nat.le_trans hs7 hsB
            clear hc7 hb7
            have k8 : ¬ 9223372036854775807 < 1 + s6.size + 5 + 1 + s7.size := by omega
            have k9 : ¬ 9223372036854775807 < 1 + s6.size + 5 + 1 + s7.size + 1 := by omega
            go_wp2_with fail
            go_ret
            exact ⟨_, by simp; show _ ≤ 2 * sB d + 10; omega, rfl, HB7.out, _, HC7.out⟩
          · go_wp2_with fail
            go_at_call 14
            refine (HIH.out _ _ HC5.out).mono ?_
            rintro e w6 ⟨s6, hs6, rfl, hb6, q6, hc6⟩
            have HC6 := Lib.hid hc6
            have HB6 := Lib.hid (HB5.out.trans hb6)
            have hz6 : s6.size ≤ 60000 := Nat.le_trans hs6 hsB
            clear hc6 hb6
            have k0 : ¬ 9223372036854775807 < 1 + s6.size := by omega
            have k1 : ¬ 9223372036854775807 < 1 + s6.size + 5 := by omega
            have k2 : ¬ 9223372036854775807 < 1 + s6.size + 5 + 1 := by omega
            go_wp2_with fail
            go_at_call 14
            refine (HIH.out _ _ HC6.out).mono ?_
            rintro e w7 ⟨s7, hs7, rfl, hb7, q7, hc7⟩
            have HC7 := Lib.hid hc7
            have HB7 := Lib.hid (HB6.out.trans hb7)
            have hz7 : s7.size ≤ 60000 := Nat.le_trans hs7 hsB
            clear hc7 hb7
            have k8 : ¬ 9223372036854775807 < 1 + s6.size + 5 + 1 + s7.size := by omega
            have k9 : ¬ 9223372036854775807 < 1 + s6.size + 5 + 1 + s7.size + 1 := by omega
            go_wp2_with fail
            go_ret
            exact ⟨_, by simp; show _ ≤ 2 * sB d + 10; omega, rfl, HB7.out, _, HC7.out⟩
          · go_wp2_with fail
            go_at_call 14
            refine (HIH.out _ _ HC5.out).mono ?_
            rintro e w6 ⟨s6, hs6, rfl, hb6, q6, hc6⟩
            have HC6 := Lib.hid hc6
            have HB6 := Lib.hid (HB5.out.trans hb6)
            have hz6 : s6.size ≤ 60000 := Nat.le_trans hs6 hsB
            clear hc6 hb6
            have k0 : ¬ 9223372036854775807 < 1 + s6.size := by omega
            have k1 : ¬ 9223372036854775807 < 1 + s6.size + 5 := by omega
            have k2 : ¬ 9223372036854775807 < 1 + s6.size + 5 + 1 := by omega
            go_wp2_with fail
            go_at_call 14
            refine (HIH.out _ _ HC6.out).mono ?_
            rintro e w7 ⟨s7, hs7, rfl, hb7, q7, hc7⟩
            have HC7 := Lib.hid hc7
            have HB7 := Lib.hid (HB6.out.trans hb7)
            have hz7 : s7.size ≤ 60000 := Nat.le_trans hs7 hsB
            clear hc7 hb7
            have k8 : ¬ 9223372036854775807 < 1 + s6.size + 5 + 1 + s7.size := by omega
            have k9 : ¬ 9223372036854775807 < 1 + s6.size + 5 + 1 + s7.size + 1 := by omega
            go_wp2_with fail
            go_ret
            exact ⟨_, by simp; show _ ≤ 2 * sB d + 10; omega, rfl, HB7.out, _, HC7.out⟩
          · go_wp2_with fail
            go_at_call 14
            refine (HIH.out _ _ HC5.out).mono ?_
            rintro e w6 ⟨s6, hs6, rfl, hb6, q6, hc6⟩
            have HC6 := Lib.hid hc6
            have HB6 := Lib.hid (HB5.out.trans hb6)
            have hz6 : s6.size ≤ 60000 := Nat.le_trans hs6 hsB
            clear hc6 hb6
            have k0 : ¬ 9223372036854775807 < 1 + s6.size := by omega
            have k1 : ¬ 9223372036854775807 < 1 + s6.size + 5 := by omega
            have k2 : ¬ 9223372036854775807 < 1 + s6.size + 5 + 1 := by omega
            go_wp2_with fail
            go_at_call 14
            refine (HIH.out _ _ HC6.out).mono ?_
            rintro e w7 ⟨s7, hs7, rfl, hb7, q7, hc7⟩
            have HC7 := Lib.hid hc7
            have HB7 := Lib.hid (HB6.out.trans hb7)
            have hz7 : s7.size ≤ 60000 := Nat.le_trans hs7 hsB
            clear hc7 hb7
            have k8 : ¬ 9223372036854775807 < 1 + s6.size + 5 + 1 + s7.size := by omega
            have k9 : ¬ 9223372036854775807 < 1 + s6.size + 5 + 1 + s7.size + 1 := by omega
            go_wp2_with fail
            go_ret
            exact ⟨_, by simp; show _ ≤ 2 * sB d + 10; omega, rfl, HB7.out, _, HC7.out⟩
          · go_wp2_with fail
            go_at_call 14
            refine (HIH.out _ _ HC5.out).mono ?_
            rintro e w6 ⟨s6, hs6, rfl, hb6, q6, hc6⟩
            have HC6 := Lib.hid hc6
            have HB6 := Lib.hid (HB5.out.trans hb6)
            have hz6 : s6.size ≤ 60000 := Nat.le_trans hs6 hsB
            clear hc6 hb6
            have k0 : ¬ 9223372036854775807 < 1 + s6.size := by omega
            have k1 : ¬ 9223372036854775807 < 1 + s6.size + 1 := by omega
            go_wp2_with fail
            go_ret
            exact ⟨_, by simp; show _ ≤ 2 * sB d + 10; omega, rfl, HB6.out, _, HC6.out⟩
    · have HB2 : Hid (Below B w w) := Lib.hid (Below.refl B w)
      go_enter Tryd.func14, Tryd.ntmps14
      go_wp2_with fail
      go_at_call 21
      refine (next_st 5 (by decide) (by decide) hBK HC.out).mono ?_
      rintro e w4 ⟨v4, hv4, rfl, hb4, _, q4, hc4⟩
      have HC4 := Lib.hid hc4
      have HB4 := Lib.hid (Below.trans HB2.out hb4)
      have hKw4 : K < w4.heap.size := hc4.lt
      clear hc4 hb4
      by_cases h0 : v4 = 0
      · subst h0
        go_wp2_with fail
        rw [← op6A_lit]
        have hO : K ≠ w4.heap.size := by omega
        have hal : Below B w4 (w4.alloc (.cells op6A 9)) := (Below.refl B w4).alloc (by omega) _
        go_at_call 21
        refine (next_st 6 (by decide) (by decide) hBK (HC4.out.kept (World.grownBy_alloc w4 (.cells op6A 9) none) (by simp) (fun _ => by simp))).mono ?_
        rintro e w9 ⟨v9, hv9, rfl, hb9, hg9, q9, hc9⟩
        obtain ⟨x9, hx9⟩ : ∃ x, op6K v9 = x := ⟨_, rfl⟩
        have hcell9 : w9.cell? ⟨w4.heap.size, v9, none⟩ = some (.string x9) := by
          rw [cell_kept hg9 (by simp) (by intro h; injection h with h; exact hO h.symm), World.cell?_alloc_new, ← hx9]
          exact op6_at v9 hv9
        have hx9s : x9.size ≤ 4 := by rw [← hx9]; exact op6_size v9 hv9
        have hv9I : (v9 : Int) < 6 := by omega
        have HC9 := Lib.hid hc9
        have HB9 := Lib.hid ((HB4.out).trans (hal.trans hb9))
        clear hb9 hg9 hc9 hx9 hal
        go_wp2_with fail
        go_at_call 21
        refine (next_st 6 (by decide) (by decide) hBK HC9.out).mono ?_
        rintro e wA ⟨vA, hvA, rfl, hbA, _, qA, hcA⟩
        have HCA := Lib.hid hcA
        have HBA := Lib.hid (HB9.out.trans hbA)
        have hKA : K < wA.heap.size := hcA.lt
        clear hbA hcA HC9 HB9 hv9I hv9 hcell9
        by_cases h1 : vA = 1
        · subst h1
          go_wp2_with fail
          rw [← tr2A_lit]
          have hO8 : K ≠ wA.heap.size := by omega
          have hal8 : Below B wA (wA.alloc (.cells tr2A 9)) := (Below.refl B wA).alloc (by omega) _
          go_at_call 21
          refine (next_st 2 (by decide) (by decide) hBK (HCA.out.kept (World.grownBy_alloc wA (.cells tr2A 9) none) (by simp) (fun _ => by simp))).mono ?_
          rintro e w8 ⟨v8, hv8, rfl, hb8, hg8, q8, hc8⟩
          obtain ⟨x8, hx8⟩ : ∃ x, tr2K v8 = x := ⟨_, rfl⟩
          have hcell8 : w8.cell? ⟨wA.heap.size, v8, none⟩ = some (.string x8) := by
            rw [cell_kept hg8 (by simp) (by intro h; injection h with h; exact hO8 h.symm), World.cell?_alloc_new, ← hx8]
            exact tr2_at v8 hv8
          have hx8s : x8.size ≤ 5 := by rw [← hx8]; exact tr2_size v8 hv8
          have hv8I : (v8 : Int) < 2 := by omega
          have HC8 := Lib.hid hc8
          have HB8 := Lib.hid ((HBA.out).trans (hal8.trans hb8))
          clear hb8 hg8 hc8 hx8 hal8
          go_wp2_with fail
          go_ret
          exact ⟨x8, Nat.le_trans hx8s (by have := sB_ge 0; first | exact Nat.le_trans (by decide) (sB_ge _)), rfl, HB8.out, _, HC8.out⟩
        · have h1I : ((vA : Int) == 1) = false := by rw [beq_eq_false_iff_ne]; omega
          have h1J : ¬ (vA : Int) = 1 := by omega
          go_wp2_with fail
          go_at_call 27
          refine (cs_number hBK true 1 (by decide) _ _ HCA.out).mono ?_
          rintro e wB ⟨sB1, hsB, rfl, hbB, qB, hcB⟩
          have HCB := Lib.hid hcB
          have HBB := Lib.hid (HBA.out.trans hbB)
          have hzB : sB1.size ≤ 84 := hsB
          have kB : ¬ 9223372036854775807 < sB1.size + x9.size := by omega
          clear hcB hbB hsB
          go_wp2_with fail
          go_at_call 27
          refine (cs_number hBK true 1 (by decide) _ _ HCB.out).mono ?_
          rintro e wC ⟨sC1, hsC, rfl, hbC, qC, hcC⟩
          have HCC := Lib.hid hcC
          have HBC := Lib.hid (HBB.out.trans hbC)
          have hzC : sC1.size ≤ 84 := hsC
          have kC : ¬ 9223372036854775807 < sB1.size + x9.size + sC1.size := by omega
          clear hcC hbC hsC
          go_wp2_with fail
          go_ret
          exact ⟨_, Nat.le_trans (by simp; omega : _ ≤ 1500) (sB_ge _), rfl, HBC.out, _, HCC.out⟩
      · have h0I : ((v4 : Int) == 0) = false := by rw [beq_eq_false_iff_ne]; omega
        have h0J : ¬ (v4 : Int) = 0 := by omega
        go_wp2_with fail
        go_at_call 21
        refine (next_st 6 (by decide) (by decide) hBK HC4.out).mono ?_
        rintro e w5 ⟨v5, hv5, rfl, hb5, _, q5, hc5⟩
        have HC5 := Lib.hid hc5
        have HB5 := Lib.hid (HB4.out.trans hb5)
        clear hc5 hb5 HC4
        have h6 : v5 = 0 ∨ v5 = 1 ∨ v5 = 2 ∨ v5 = 3 ∨ v5 = 4 ∨ v5 = 5 := by omega
        clear h0 h0I h0J hv5
        rcases h6 with rfl | rfl | rfl | rfl | rfl | rfl
        · go_wp2_with fail
          go_at_call 14
          refine (HIH.out _ _ HC5.out).mono ?_
          rintro e w6 ⟨s6, hs6, rfl, hb6, q6, hc6⟩
          have HC6 := Lib.hid hc6
          have HB6 := Lib.hid (HB5.out.trans hb6)
          have hz6 : s6.size ≤ 60000 := Nat.le_trans hs6 hsB
          clear hc6 hb6
          have k0 : ¬ 9223372036854775807 < 2 + s6.size := by omega
          have k1 : ¬ 9223372036854775807 < 2 + s6.size + 1 := by omega
          go_wp2_with fail
          go_ret
          exact ⟨_, by simp; show _ ≤ 2 * sB d + 10; omega, rfl, HB6.out, _, HC6.out⟩
        · go_wp2_with fail
          go_at_call 14
          refine (HIH.out _ _ HC5.out).mono ?_
          rintro e w6 ⟨s6, hs6, rfl, hb6, q6, hc6⟩
          have HC6 := Lib.hid hc6
          have HB6 := Lib.hid (HB5.out.trans hb6)
          have hz6 : s6.size ≤ 60000 := Nat.le_trans hs6 hsB
          clear hc6 hb6
          have k0 : ¬ 9223372036854775807 < 1 + s6.size := by omega
          have k1 : ¬ 9223372036854775807 < 1 + s6.size + 5 := by omega
          have k2 : ¬ 9223372036854775807 < 1 + s6.size + 5 + 1 := by omega
          go_wp2_with fail
          go_at_call 14
          refine (HIH.out _ _ HC6.out).mono ?_
          rintro e w7 ⟨s7, hs7, rfl, hb7, q7, hc7⟩
          have HC7 := Lib.hid hc7
          have HB7 := Lib.hid (HB6.out.trans hb7)
          have hz7 : s7.size ≤ 60000 := Nat.le_trans hs7 hsB
          clear hc7 hb7
          have k8 : ¬ 9223372036854775807 < 1 + s6.size + 5 + 1 + s7.size := by omega
          have k9 : ¬ 9223372036854775807 < 1 + s6.size + 5 + 1 + s7.size + 1 := by omega
          go_wp2_with fail
          go_ret
          exact ⟨_, by simp; show _ ≤ 2 * sB d + 10; omega, rfl, HB7.out, _, HC7.out⟩
        · go_wp2_with fail
          go_at_call 14
          refine (HIH.out _ _ HC5.out).mono ?_
          rintro e w6 ⟨s6, hs6, rfl, hb6, q6, hc6⟩
          have HC6 := Lib.hid hc6
          have HB6 := Lib.hid (HB5.out.trans hb6)
          have hz6 : s6.size ≤ 60000 := Nat.le_trans hs6 hsB
          clear hc6 hb6
          have k0 : ¬ 9223372036854775807 < 1 + s6.size := by omega
          have k1 : ¬ 9223372036854775807 < 1 + s6.size + 5 := by omega
          have k2 : ¬ 9223372036854775807 < 1 + s6.size + 5 + 1 := by omega
          go_wp2_with fail
          go_at_call 14
          refine (HIH.out _ _ HC6.out).mono ?_
          rintro e w7 ⟨s7, hs7, rfl, hb7, q7, hc7⟩
          have HC7 := Lib.hid hc7
          have HB7 := Lib.hid (HB6.out.trans hb7)
          have hz7 : s7.size ≤ 60000 := Nat.le_trans hs7 hsB
          clear hc7 hb7
          have k8 : ¬ 9223372036854775807 < 1 + s6.size + 5 + 1 + s7.size := by omega
          have k9 : ¬ 9223372036854775807 < 1 + s6.size + 5 + 1 + s7.size + 1 := by omega
          go_wp2_with fail
          go_ret
          exact ⟨_, by simp; show _ ≤ 2 * sB d + 10; omega, rfl, HB7.out, _, HC7.out⟩
        · go_wp2_with fail
          go_at_call 14
          refine (HIH.out _ _ HC5.out).mono ?_
          rintro e w6 ⟨s6, hs6, rfl, hb6, q6, hc6⟩
          have HC6 := Lib.hid hc6
          have HB6 := Lib.hid (HB5.out.trans hb6)
          have hz6 : s6.size ≤ 60000 := Nat.le_trans hs6 hsB
          clear hc6 hb6
          have k0 : ¬ 9223372036854775807 < 1 + s6.size := by omega
          have k1 : ¬ 9223372036854775807 < 1 + s6.size + 5 := by omega
          have k2 : ¬ 9223372036854775807 < 1 + s6.size + 5 + 1 := by omega
          go_wp2_with fail
          go_at_call 14
          refine (HIH.out _ _ HC6.out).mono ?_
          rintro e w7 ⟨s7, hs7, rfl, hb7, q7, hc7⟩
          have HC7 := Lib.hid hc7
          have HB7 := Lib.hid (HB6.out.trans hb7)
          have hz7 : s7.size ≤ 60000 := Nat.le_trans hs7 hsB
          clear hc7 hb7
          have k8 : ¬ 9223372036854775807 < 1 + s6.size + 5 + 1 + s7.size := by omega
          have k9 : ¬ 9223372036854775807 < 1 + s6.size + 5 + 1 + s7.size + 1 := by omega
          go_wp2_with fail
          go_ret
          exact ⟨_, by simp; show _ ≤ 2 * sB d + 10; omega, rfl, HB7.out, _, HC7.out⟩
        · go_wp2_with fail
          go_at_call 14
          refine (HIH.out _ _ HC5.out).mono ?_
          rintro e w6 ⟨s6, hs6, rfl, hb6, q6, hc6⟩
          have HC6 := Lib.hid hc6
          have HB6 := Lib.hid (HB5.out.trans hb6)
          have hz6 : s6.size ≤ 60000 := Nat.le_trans hs6 hsB
          clear hc6 hb6
          have k0 : ¬ 9223372036854775807 < 1 + s6.size := by omega
          have k1 : ¬ 9223372036854775807 < 1 + s6.size + 5 := by omega
          have k2 : ¬ 9223372036854775807 < 1 + s6.size + 5 + 1 := by omega
          go_wp2_with fail
          go_at_call 14
          refine (HIH.out _ _ HC6.out).mono ?_
          rintro e w7 ⟨s7, hs7, rfl, hb7, q7, hc7⟩
          have HC7 := Lib.hid hc7
          have HB7 := Lib.hid (HB6.out.trans hb7)
          have hz7 : s7.size ≤ 60000 := Nat.le_trans hs7 hsB
          clear hc7 hb7
          have k8 : ¬ 9223372036854775807 < 1 + s6.size + 5 + 1 + s7.size := by omega
          have k9 : ¬ 9223372036854775807 < 1 + s6.size + 5 + 1 + s7.size + 1 := by omega
          go_wp2_with fail
          go_ret
          exact ⟨_, by simp; show _ ≤ 2 * sB d + 10; omega, rfl, HB7.out, _, HC7.out⟩
        · go_wp2_with fail
          go_at_call 14
          refine (HIH.out _ _ HC5.out).mono ?_
          rintro e w6 ⟨s6, hs6, rfl, hb6, q6, hc6⟩
          have HC6 := Lib.hid hc6
          have HB6 := Lib.hid (HB5.out.trans hb6)
          have hz6 : s6.size ≤ 60000 := Nat.le_trans hs6 hsB
          clear hc6 hb6
          have k0 : ¬ 9223372036854775807 < 1 + s6.size := by omega
          have k1 : ¬ 9223372036854775807 < 1 + s6.size + 1 := by omega
          go_wp2_with fail
          go_ret
          exact ⟨_, by simp; show _ ≤ 2 * sB d + 10; omega, rfl, HB6.out, _, HC6.out⟩
end Go.Proofs.YtodmkmoglchoeaaDoor
