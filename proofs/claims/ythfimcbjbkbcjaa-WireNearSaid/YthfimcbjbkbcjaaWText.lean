/- readText of package wire: what it returns. -/
import Derived.Test.YthfimcbjbkbcjaaWBytes
import Derived.Test.YthfimcbjbkbcjaaBackPure
namespace Go.Proofs.Ythfimcbjbkbcjaa
open Go.RowKit

/-- The string of the bytes l. -/
def strL (l : List Nat) : ByteArray := strN (l.map fun (x : Nat) => (x : Int))
theorem conv_list {w : World} {D : Nat} {A : Option Addr} {l : List Nat} {n : Nat} (cap : Nat) (h : ReadsL w D A l) (hl : l.length = n) :
    (convert 23 9 (.slice A n cap)).run Try.prog w = .ok (.string (strL l)) w := by
  rw [run_convert_bytes_string w 23 9 5 _ _ _ Try.underlying23 Try.underlying5 Try.underlying9]
  rcases h with rfl | ⟨o, rfl, hd, hc⟩
  · obtain rfl : n = 0 := by rw [← hl]; rfl
    cases A with
    | none => rfl
    | some a => exact run_bytesToString w a 0 cap [] (by simpa using run_loadCells_list (P := Try.prog) w a [] (by simp))
  · refine run_bytesToString w ⟨D, o, none⟩ n cap (l.map fun (x : Nat) => (x : Int)) ?_
    have e := run_loadCells_list (P := Try.prog) w ⟨D, o, none⟩ (cellsOf l) (fun j v hv => by
      have hj : j < l.length := by have := (List.getElem?_eq_some_iff.1 hv).1; rwa [cellsOf_len] at this
      rw [cellsOf_get hj] at hv
      rw [Addr.add_mid, hc j hj, hv])
    rw [cellsOf_len, hl] at e
    simpa [cellsOf, Function.comp_def] using e
/-- A text consists of bytes from 32 to 126. -/
def plain (l : List Nat) : Bool := l.all fun x => decide (32 ≤ x) && decide (x ≤ 126)
/-- The index of the first byte that is none of a text. -/
theorem not_plain {l : List Nat} (h : plain l = false) : ∃ k, k < l.length ∧ (∀ i, i < k → 32 ≤ l.getD i 0 ∧ l.getD i 0 ≤ 126) ∧ (l.getD k 0 < 32 ∨ 126 < l.getD k 0) := by
  induction l with
  | nil => simp [plain] at h
  | cons x t ih =>
    by_cases hx : 32 ≤ x ∧ x ≤ 126
    · have ht : plain t = false := by
        simp only [plain, List.all_cons, hx.1, hx.2, decide_true, Bool.and_self, Bool.true_and] at h
        exact h
      obtain ⟨k, h1, h2, h3⟩ := ih ht
      refine ⟨k + 1, by simp; omega, fun i hi => ?_, by simpa using h3⟩
      cases i with
      | zero => simpa using hx
      | succ i => simpa using h2 i (by omega)
    · exact ⟨0, by simp, fun i hi => absurd hi (by omega), by simp; omega⟩
theorem plain_at {l : List Nat} (h : plain l = true) (k : Nat) (hk : k < l.length) : 32 ≤ l.getD k 0 ∧ l.getD k 0 ≤ 126 := by
  have := List.all_eq_true.1 h (l.getD k 0) (by rw [List.getD_eq_getElem?_getD, List.getElem?_eq_getElem hk]; exact List.getElem_mem hk)
  simpa using this

section
variable (R D : Nat) (l : List Nat) (A : Option Addr) (n cap : Nat) (w : World)
theorem rtext_bad (most c : Int) (hB : Calls Try.prog 45 #[.pointer (some ⟨R, 0, none⟩), .int .i64 most] w (BadB R D c w)) : Calls Try.prog 47 #[.pointer (some ⟨R, 0, none⟩), .int .i64 most] w (Bad R D c w) := by
  have HB := Lib.hid hB
  clear hB
  have hcv : ∀ (A : Option Addr) (cap : Nat) (w : World), (convert 23 9 (.slice A 0 cap)).run Try.prog w = .ok (.string (strL [])) w := fun A cap w => conv_list (D := 0) cap (.inl rfl) rfl
  go_enter Try.func47, Try.ntmps47
  go_wp2_with (go_at_call 45; refine HB.out.mono ?_; rintro e w1 ⟨A1, cap1, rfl, hg1, l1, A2, n2, cap2, hR1⟩)
  have HR1 := Lib.hid hR1
  clear hR1
  go_loop [9, 18] (fun _ i => i = .int .i64 0) (fun _ _ => 0)
  case atStart => rfl
  case round =>
    subst hrel
    go_wp2
    go_ret2
    exact ⟨_, rfl, hg1, _, _, _, _, HR1.out⟩
theorem rtext_form (most : Int) (x l' : List Nat) (hx : plain x = false) (hB : Calls Try.prog 45 #[.pointer (some ⟨R, 0, none⟩), .int .i64 most] w (GoodB R D x l' w)) : Calls Try.prog 47 #[.pointer (some ⟨R, 0, none⟩), .int .i64 most] w (Bad R D 2 w) := by
  have HB := Lib.hid hB
  clear hB
  obtain ⟨k, hk1, hk2, hk3⟩ := not_plain hx
  have HK := Lib.hid hk2
  clear hk2 hx
  go_enter Try.func47, Try.ntmps47
  go_wp2_with (go_at_call 45; refine HB.out.mono ?_; rintro e w1 ⟨_, ⟨A1, n1, cap1, g1, rfl, hn1, hlg, hr1, hc1, hm1⟩, rfl, hg1, A2, n2, cap2, hR1⟩)
  have HR1 := Lib.hid hR1
  obtain ⟨o, rfl, hd, hc⟩ := hr1.resolve_left (fun e => by rw [e] at hk1; simp at hk1)
  have HC := Lib.hid hc
  have hn2 : k < n1 := by have := hn1.out; omega
  have hm2 : n1 ≤ 9223372036854775807 := by have := hm1; unfold maxLen at this; omega
  clear hR1 hc hr1 hm1
  go_loop [9, 18] (fun _ i => ∃ j : Nat, j ≤ k ∧ i = .int .i64 j) (fun _ i => k - (intOf i).toNat)
  case atStart => exact ⟨0, by omega, rfl⟩
  case round =>
    obtain ⟨j, hj, rfl⟩ := hrel
    have hlt : (j : Int) < (n1 : Int) := by omega
    have i0 := HC.out j (by have := hn1.out; omega)
    by_cases hjk : j = k
    · subst hjk
      generalize x.getD j 0 = y at *
      rcases hk3 with hy | hy
      · have hy' : (y : Int) < 32 := by omega
        clear hy
        go_wp2
        go_ret2
        exact ⟨_, rfl, hg1, _, _, _, _, HR1.out⟩
      · have hy' : 126 < (y : Int) := by omega
        have hy2 : decide ((y : Int) < 32) = false := by simp; omega
        clear hy
        go_wp2
        go_ret2
        exact ⟨_, rfl, hg1, _, _, _, _, HR1.out⟩
    · obtain ⟨h32, h126⟩ := HK.out j (by omega)
      have H3 := Lib.hid hk3
      clear hk3
      generalize x.getD j 0 = y at *
      have hy1 : decide ((y : Int) < 32) = false := by simp; omega
      have hy2 : decide (126 < (y : Int)) = false := by simp; omega
      clear h32 h126
      go_wp2
      go_round
      case rel => exact ⟨j + 1, by omega, by simp⟩
      case measure => simp [intOf]; omega
theorem rtext_ok (most : Int) (x l' : List Nat) (hx : plain x = true) (hB : Calls Try.prog 45 #[.pointer (some ⟨R, 0, none⟩), .int .i64 most] w (GoodB R D x l' w)) : Calls Try.prog 47 #[.pointer (some ⟨R, 0, none⟩), .int .i64 most] w (Good R D (.string (strL x)) l' w) := by
  have HB := Lib.hid hB
  have HX := Lib.hid hx
  clear hB hx
  go_enter Try.func47, Try.ntmps47
  go_wp2_with (go_at_call 45; refine HB.out.mono ?_; rintro e w1 ⟨_, ⟨A1, n1, cap1, g1, rfl, hn1, hlg, hr1, hc1, hm1⟩, rfl, hg1, A2, n2, cap2, hR1⟩)
  have HR1 := Lib.hid hR1
  have hm2 : n1 ≤ 9223372036854775807 := by have := hm1; unfold maxLen at this; omega
  have hcv : (convert 23 9 (.slice A1 n1 cap1)).run Try.prog w1 = .ok (.string (strL x)) w1 := conv_list cap1 hr1 hn1.out.symm
  have Hr1 := Lib.hid hr1
  clear hR1 hr1 hm1
  go_loop [9, 18] (fun _ i => ∃ j : Nat, j ≤ n1 ∧ i = .int .i64 j) (fun _ i => n1 - (intOf i).toNat)
  case atStart => exact ⟨0, by omega, rfl⟩
  case round =>
    obtain ⟨j, hj, rfl⟩ := hrel
    by_cases hlt : j < n1
    · obtain ⟨o, rfl, hd, hc⟩ := Hr1.out.resolve_left (fun e => by have := hn1.out; rw [e] at this; simp at this; omega)
      have i0 := hc j (by have := hn1.out; omega)
      obtain ⟨h32, h126⟩ := plain_at HX.out j (by have := hn1.out; omega)
      have hlt' : (j : Int) < (n1 : Int) := by omega
      clear hc
      generalize x.getD j 0 = y at *
      have hy1 : decide ((y : Int) < 32) = false := by simp; omega
      have hy2 : decide (126 < (y : Int)) = false := by simp; omega
      clear h32 h126
      go_wp2
      go_round
      case rel => exact ⟨j + 1, by omega, by simp⟩
      case measure => simp [intOf]; omega
    · obtain rfl : j = n1 := by omega
      go_wp2
      go_ret2
      exact ⟨rfl, hg1, _, _, _, HR1.out⟩
end
end Go.Proofs.Ythfimcbjbkbcjaa
