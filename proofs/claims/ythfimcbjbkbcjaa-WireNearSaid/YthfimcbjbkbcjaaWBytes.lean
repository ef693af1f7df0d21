/- readBytes of package wire: what it returns. -/
import Derived.Test.YthfimcbjbkbcjaaWRead
namespace Go.Proofs.Ythfimcbjbkbcjaa
open Go.RowKit

/-- Something was read and an error found: only the reader and what is new have changed. -/
def Bad (R D : Nat) (c : Int) (w : World) (en : Ending) (w' : World) : Prop := ∃ x, en = .returned (.tuple #[x, .int .i64 c]) ∧ w.grownBy w' (some R) ∧ ∃ l' A' n' cap', RdAt w' R D l' 0 A' n' cap'
/-- The same of a byte string: none is returned. -/
def BadB (R D : Nat) (c : Int) (w : World) (en : Ending) (w' : World) : Prop := ∃ A cap, en = .returned (.tuple #[.slice A 0 cap, .int .i64 c]) ∧ w.grownBy w' (some R) ∧ ∃ l' A' n' cap', RdAt w' R D l' 0 A' n' cap'
/-- An element was read, and l' is left. -/
def Good (R D : Nat) (val : Value) (l' : List Nat) (w : World) (en : Ending) (w' : World) : Prop := en = .returned (.tuple #[val, .int .i64 0]) ∧ w.grownBy w' (some R) ∧ ∃ A' n' cap', RdAt w' R D l' 0 A' n' cap'
/-- The slice holds the bytes l, in a block of its own. -/
def NewL (w : World) (l : List Nat) (v : Value) (w' : World) : Prop := ∃ A n cap g, v = .slice A n cap ∧ Hid (n = l.length) ∧ w.heap.size ≤ g ∧ ReadsL w' g A l ∧ n ≤ cap ∧ cap ≤ maxLen
/-- A byte string was read, and l' is left. -/
def GoodB (R D : Nat) (x : List Nat) (l' : List Nat) (w : World) (en : Ending) (w' : World) : Prop := ∃ val, NewL w x val w' ∧ Good R D val l' w en w'
section
variable (R D : Nat) (l : List Nat) (A : Option Addr) (n cap : Nat) (w : World)
theorem Good.of_skip {w : World} {R D : Nat} {l : List Nat} {A : Option Addr} {n cap : Nat} (hR : RdAt w R D l 0 A n cap) (k : Nat) (hk : k ≤ n) (val : Value) :
    Good R D val (l.drop k) w (.returned (.tuple #[val, .int .i64 0])) (w.setCell ⟨R, 0, none⟩ (.slice (cutA A cap k) (n - k) (cap - k))) :=
  ⟨rfl, grown_set w R 0 _, _, _, _, hR.skip k hk⟩
theorem Bad.of_skip {w : World} {R D : Nat} {l : List Nat} {A : Option Addr} {n cap : Nat} (hR : RdAt w R D l 0 A n cap) (k : Nat) (hk : k ≤ n) (val : Value) (c : Int) :
    Bad R D c w (.returned (.tuple #[val, .int .i64 c])) (w.setCell ⟨R, 0, none⟩ (.slice (cutA A cap k) (n - k) (cap - k))) :=
  ⟨_, rfl, grown_set w R 0 _, _, _, _, _, hR.skip k hk⟩
theorem Bad.of_same {w : World} {R D : Nat} {l : List Nat} {A : Option Addr} {n cap : Nat} (hR : RdAt w R D l 0 A n cap) (val : Value) (c : Int) :
    Bad R D c w (.returned (.tuple #[val, .int .i64 c])) w :=
  ⟨_, rfl, World.grownBy.refl _ _, _, _, _, _, hR⟩
theorem BadB.of_skip {w : World} {R D : Nat} {l : List Nat} {A : Option Addr} {n cap : Nat} (hR : RdAt w R D l 0 A n cap) (k : Nat) (hk : k ≤ n) (A2 : Option Addr) (cap2 : Nat) (c : Int) :
    BadB R D c w (.returned (.tuple #[.slice A2 0 cap2, .int .i64 c])) (w.setCell ⟨R, 0, none⟩ (.slice (cutA A cap k) (n - k) (cap - k))) :=
  ⟨_, _, rfl, grown_set w R 0 _, _, _, _, _, hR.skip k hk⟩
theorem BadB.of_same {w : World} {R D : Nat} {l : List Nat} {A : Option Addr} {n cap : Nat} (hR : RdAt w R D l 0 A n cap) (A2 : Option Addr) (cap2 : Nat) (c : Int) :
    BadB R D c w (.returned (.tuple #[.slice A2 0 cap2, .int .i64 c])) w :=
  ⟨_, _, rfl, World.grownBy.refl _ _, _, _, _, _, hR⟩

theorem rbytes_short (hR : RdAt w R D l 0 A n cap) (most : Int) (h : n < 2) : Calls Try.prog 45 #[.pointer (some ⟨R, 0, none⟩), .int .i64 most] w (BadB R D 1 w) := by
  have HR := Lib.hid hR
  clear hR
  go_enter Try.func45, Try.ntmps45
  go_wp2_with (go_at_call 56; refine (rcount_short R D l A n cap _ 0 HR.out most h).mono ?_; rintro e w' ⟨rfl, rfl⟩)
  go_ret2
  exact .of_same HR.out _ _ _
theorem rbytes_limit (hR : RdAt w R D l 0 A n cap) (most : Int) (h : 2 ≤ n) (v : Nat) (hv : Hid (num (l.take 2) = v)) (hx : most < v) : Calls Try.prog 45 #[.pointer (some ⟨R, 0, none⟩), .int .i64 most] w (BadB R D 3 w) := by
  have HR := Lib.hid hR
  clear hR
  go_enter Try.func45, Try.ntmps45
  go_wp2_with (go_at_call 56; refine (rcount_limit R D l A n cap _ 0 HR.out h v hv most hx).mono ?_; rintro e w' ⟨rfl, rfl⟩)
  go_ret2
  exact .of_skip HR.out 2 h _ _ _
theorem rbytes_short2 (hR : RdAt w R D l 0 A n cap) (most : Int) (h : 2 ≤ n) (v : Nat) (hv : Hid (num (l.take 2) = v)) (hx : (v : Int) ≤ most) (h2 : n - 2 < v) : Calls Try.prog 45 #[.pointer (some ⟨R, 0, none⟩), .int .i64 most] w (BadB R D 1 w) := by
  have HR := Lib.hid hR
  have HS := Lib.hid (hR.skip 2 h)
  clear hR
  go_enter Try.func45, Try.ntmps45
  go_wp2_with (first
    | (go_at_call 56; refine (rcount_ok R D l A n cap _ 0 HR.out h v hv most hx).mono ?_; rintro e w' ⟨rfl, rfl⟩)
    | (go_at_call 60; refine (take_short R v _ _ _ _ HS.out.c0 h2).mono ?_; rintro e w' ⟨rfl, rfl⟩)
    | (go_at_call 37; refine (room_0 none 0 0 0 [] _ (.inl rfl) rfl (by decide)).mono ?_; rintro e w1 ⟨A1, n1, cap1, g1, rfl, hn1, ho1, hb1, hg1, hr1, hc1, hm1, hq1⟩))
  go_ret2
  have hg := (grown_set w R 0 (.slice (cutA A cap 2) (n - 2) (cap - 2))).trans (grown_of_below hb1 (some R))
  obtain rfl : n1 = 0 := hn1.out
  exact ⟨_, _, rfl, hg, _, _, _, _, HS.out.kept (grown_of_below hb1 none) (by simp) (by simp)⟩
theorem rbytes_ok (hR : RdAt w R D l 0 A n cap) (most : Int) (h : 2 ≤ n) (v : Nat) (hv : Hid (num (l.take 2) = v)) (hx : (v : Int) ≤ most) (h2 : v ≤ n - 2) : Calls Try.prog 45 #[.pointer (some ⟨R, 0, none⟩), .int .i64 most] w (GoodB R D ((l.drop 2).take v) (l.drop (2 + v)) w) := by
  have HR := Lib.hid hR
  have HS := Lib.hid (hR.skip 2 h)
  have HS2 := Lib.hid (HS.out.skip v h2)
  have HL : Hid (((l.drop 2).take v).length = v) := Lib.hid (by rw [List.length_take, List.length_drop, hR.len]; omega)
  have HQ := Lib.hid ((HS.out.reads.take v).kept (grown_set _ R 0 (.slice (cutA (cutA A cap 2) (cap - 2) v) (n - 2 - v) (cap - 2 - v))) (by simp; exact fun e => hR.apart e.symm))
  have hv2 : v ≤ 1000000 := by have := hR.max; have := hR.le; omega
  clear hR
  go_enter Try.func45, Try.ntmps45
  go_wp2_with (first
    | (go_at_call 56; refine (rcount_ok R D l A n cap _ 0 HR.out h v hv most hx).mono ?_; rintro e w' ⟨rfl, rfl⟩)
    | (go_at_call 60; refine (take_ok R v _ _ _ _ HS.out.c0 HS.out.f0 h2 HS.out.le).mono ?_; rintro e w' ⟨rfl, rfl⟩)
    | (go_at_call 37; refine (room_0 _ D v _ ((l.drop 2).take v) _ HQ.out HL.out (by omega)).mono ?_; rintro e w1 ⟨A1, n1, cap1, g1, rfl, hn1, ho1, hb1, hg1, hr1, hc1, hm1, hq1⟩))
  go_ret2
  have hg := ((grown_set w R 0 (.slice (cutA A cap 2) (n - 2) (cap - 2))).trans (grown_set _ R 0 _)).trans (grown_of_below hb1 (some R))
  have hE : (l.drop 2).drop v = l.drop (2 + v) := by rw [List.drop_drop]
  refine ⟨_, ⟨_, _, _, g1, rfl, hn1, ?_, hr1, hc1, hm1⟩, rfl, hg, _, _, _, hE ▸ HS2.out.kept (grown_of_below hb1 none) (by simp) (by simp)⟩
  simpa [World.setCell] using hg1
end
end Go.Proofs.Ythfimcbjbkbcjaa
