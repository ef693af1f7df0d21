/- readBool, readCount of package wire: what they return. -/
import Derived.Test.YthfimcbjbkbcjaaWTake
import Derived.Test.YthfimcbjbkbcjaaWRoom
namespace Go.Proofs.Ythfimcbjbkbcjaa
open Go.RowKit

section
variable (R D : Nat) (l : List Nat) (A : Option Addr) (n cap : Nat) (w : World)
theorem ruint1_short (e : Int) (hR : RdAt w R D l e A n cap) (h : n < 1) : Calls Try.prog 40 #[.pointer (some ⟨R, 0, none⟩), .int .i64 1] w fun e w' => e = .returned (.tuple #[.int .i64 0, .int .i64 1]) ∧ w = w' :=
  ruint_short R 1 A n cap w hR.c0 (by decide) (by decide) h
theorem ruint2_short (e : Int) (hR : RdAt w R D l e A n cap) (h : n < 2) : Calls Try.prog 40 #[.pointer (some ⟨R, 0, none⟩), .int .i64 2] w fun e w' => e = .returned (.tuple #[.int .i64 0, .int .i64 1]) ∧ w = w' :=
  ruint_short R 2 A n cap w hR.c0 (by decide) (by decide) h
theorem ruint1_ok (e : Int) (hR : RdAt w R D l e A n cap) (h : 1 ≤ n) (v : Nat) (hv : Hid (num (l.take 1) = v)) : Calls Try.prog 40 #[.pointer (some ⟨R, 0, none⟩), .int .i64 1] w fun e w' => e = .returned (.tuple #[.int .i64 v, .int .i64 0]) ∧
      w' = w.setCell ⟨R, 0, none⟩ (.slice (cutA A cap 1) (n - 1) (cap - 1)) := hv.out ▸ ruint_ok R D 1 l e A n cap w hR (by decide) (by decide) h
theorem ruint2_ok (e : Int) (hR : RdAt w R D l e A n cap) (h : 2 ≤ n) (v : Nat) (hv : Hid (num (l.take 2) = v)) : Calls Try.prog 40 #[.pointer (some ⟨R, 0, none⟩), .int .i64 2] w fun e w' => e = .returned (.tuple #[.int .i64 v, .int .i64 0]) ∧
      w' = w.setCell ⟨R, 0, none⟩ (.slice (cutA A cap 2) (n - 2) (cap - 2)) := hv.out ▸ ruint_ok R D 2 l e A n cap w hR (by decide) (by decide) h

theorem rbool_short (e : Int) (hR : RdAt w R D l e A n cap) (h : n < 1) : Calls Try.prog 43 #[.pointer (some ⟨R, 0, none⟩)] w fun e w' => e = .returned (.tuple #[.bool false, .int .i64 1]) ∧ w = w' := by
  have HR := Lib.hid hR
  clear hR
  go_enter Try.func43, Try.ntmps43
  go_wp2_with (go_at_call 40; refine (ruint1_short R D l A n cap _ e HR.out h).mono ?_; rintro e w' ⟨rfl, rfl⟩)
  go_ret2
  exact ⟨rfl, rfl⟩
theorem rbool_form (e : Int) (hR : RdAt w R D l e A n cap) (h : 1 ≤ n) (v : Nat) (hv : Hid (num (l.take 1) = v)) (hx : 1 < v) : Calls Try.prog 43 #[.pointer (some ⟨R, 0, none⟩)] w fun e w' => e = .returned (.tuple #[.bool false, .int .i64 2]) ∧ w' = w.setCell ⟨R, 0, none⟩ (.slice (cutA A cap 1) (n - 1) (cap - 1)) := by
  have HR := Lib.hid hR
  have hx' : 1 < (v : Int) := by omega
  clear hR
  go_enter Try.func43, Try.ntmps43
  go_wp2_with (go_at_call 40; refine (ruint1_ok R D l A n cap _ e HR.out h _ hv).mono ?_; rintro e w' ⟨rfl, rfl⟩)
  go_ret2
  exact ⟨rfl, rfl⟩
theorem rbool_0 (e : Int) (hR : RdAt w R D l e A n cap) (h : 1 ≤ n) (v : Nat) (hv : Hid (num (l.take 1) = v)) (hx : v = 0) : Calls Try.prog 43 #[.pointer (some ⟨R, 0, none⟩)] w fun e w' => e = .returned (.tuple #[.bool false, .int .i64 0]) ∧ w' = w.setCell ⟨R, 0, none⟩ (.slice (cutA A cap 1) (n - 1) (cap - 1)) := by
  have HR := Lib.hid hR
  subst hx
  clear hR
  go_enter Try.func43, Try.ntmps43
  go_wp2_with (go_at_call 40; refine (ruint1_ok R D l A n cap _ e HR.out h _ hv).mono ?_; rintro e w' ⟨rfl, rfl⟩)
  go_ret2
  exact ⟨rfl, rfl⟩
theorem rbool_1 (e : Int) (hR : RdAt w R D l e A n cap) (h : 1 ≤ n) (v : Nat) (hv : Hid (num (l.take 1) = v)) (hx : v = 1) : Calls Try.prog 43 #[.pointer (some ⟨R, 0, none⟩)] w fun e w' => e = .returned (.tuple #[.bool true, .int .i64 0]) ∧ w' = w.setCell ⟨R, 0, none⟩ (.slice (cutA A cap 1) (n - 1) (cap - 1)) := by
  have HR := Lib.hid hR
  subst hx
  clear hR
  go_enter Try.func43, Try.ntmps43
  go_wp2_with (go_at_call 40; refine (ruint1_ok R D l A n cap _ e HR.out h _ hv).mono ?_; rintro e w' ⟨rfl, rfl⟩)
  go_ret2
  exact ⟨rfl, rfl⟩
theorem rcount_short (e : Int) (hR : RdAt w R D l e A n cap) (most : Int) (h : n < 2) : Calls Try.prog 56 #[.pointer (some ⟨R, 0, none⟩), .int .i64 most] w fun e w' => e = .returned (.tuple #[.int .i64 0, .int .i64 1]) ∧ w = w' := by
  have HR := Lib.hid hR
  clear hR
  go_enter Try.func56, Try.ntmps56
  go_wp2_with (go_at_call 40; refine (ruint2_short R D l A n cap _ e HR.out h).mono ?_; rintro e w' ⟨rfl, rfl⟩)
  go_ret2
  exact ⟨rfl, rfl⟩
theorem rcount_limit (e : Int) (hR : RdAt w R D l e A n cap) (h : 2 ≤ n) (v : Nat) (hv : Hid (num (l.take 2) = v)) (most : Int) (hx : most < v) : Calls Try.prog 56 #[.pointer (some ⟨R, 0, none⟩), .int .i64 most] w fun e w' => e = .returned (.tuple #[.int .i64 0, .int .i64 3]) ∧ w' = w.setCell ⟨R, 0, none⟩ (.slice (cutA A cap 2) (n - 2) (cap - 2)) := by
  have HR := Lib.hid hR
  clear hR
  go_enter Try.func56, Try.ntmps56
  go_wp2_with (go_at_call 40; refine (ruint2_ok R D l A n cap _ e HR.out h _ hv).mono ?_; rintro e w' ⟨rfl, rfl⟩)
  go_ret2
  exact ⟨rfl, rfl⟩
theorem rcount_ok (e : Int) (hR : RdAt w R D l e A n cap) (h : 2 ≤ n) (v : Nat) (hv : Hid (num (l.take 2) = v)) (most : Int) (hx : (v : Int) ≤ most) : Calls Try.prog 56 #[.pointer (some ⟨R, 0, none⟩), .int .i64 most] w fun e w' => e = .returned (.tuple #[.int .i64 v, .int .i64 0]) ∧ w' = w.setCell ⟨R, 0, none⟩ (.slice (cutA A cap 2) (n - 2) (cap - 2)) := by
  have HR := Lib.hid hR
  have hx' : decide (most < (v : Int)) = false := by simp; omega
  clear hR
  go_enter Try.func56, Try.ntmps56
  go_wp2_with (go_at_call 40; refine (ruint2_ok R D l A n cap _ e HR.out h _ hv).mono ?_; rintro e w' ⟨rfl, rfl⟩)
  go_ret2
  exact ⟨rfl, rfl⟩
end
end Go.Proofs.Ythfimcbjbkbcjaa
