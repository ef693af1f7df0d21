/- New, Left, Err, Finish of package wire. -/
import Derived.Test.YthfimcbjbkbcjaaWSpec
namespace Go.Proofs.Ythfimcbjbkbcjaa
open Go.RowKit

/-- The call returns a new reader of the bytes l. -/
def RetR (l : List Nat) (w : World) (en : Ending) (w' : World) : Prop :=
  ∃ R D A n cap, en = .returned (.pointer (some ⟨R, 0, none⟩)) ∧ w.heap.size ≤ R ∧ w.heap.size ≤ D ∧ RdAt w' R D l 0 A n cap ∧ Below w.heap.size w w'
theorem new_any (A : Option Addr) (D n cap : Nat) (l : List Nat) (w : World) (hr : ReadsL w D A l) (hs : Small l) (hl : l.length = n) (hn : n ≤ 1000000) :
    Calls Try.prog 10 #[.slice A n cap] w (RetR l w) := by
  have HR := Lib.hid hr
  have HL := Lib.hid hl
  have HS := Lib.hid hs
  clear hr hl hs
  go_enter Try.func10, Try.ntmps10
  go_wp2_with (go_at_call 37; refine (room_0 A D n cap l _ HR.out HL.out (by omega)).mono ?_; rintro e w1 ⟨A1, n1, cap1, g1, rfl, hn1, ho1, hb1, hg1, hr1, hc1, hm1, hm2, hq1⟩)
  go_ret
  refine ⟨w1.heap.size, g1, A1, n1, cap1, rfl, hb1.size, hg1, ?_, hb1.alloc hb1.size _⟩
  have hL := HL.out
  have hn1' := hn1.out
  exact {
    c0 := by rw [World.cell?_alloc_new]; rfl
    c1 := by rw [World.cell?_alloc_new]; rfl
    f0 := World.frozen?_alloc_new _ _ _ _
    f1 := World.frozen?_alloc_new _ _ _ _
    lt := by simp
    dlt := by simp; omega
    len := hn1'.symm
    le := hc1
    max := by omega
    small := HS.out
    reads := hr1.kept (row := none) (grown_alloc _ _ none) (by simp)
    apart := by omega }
section
variable (R D : Nat) (l : List Nat) (A : Option Addr) (n cap : Nat) (w : World)
theorem left_any' (e : Int) (hR : RdAt w R D l e A n cap) : Calls Try.prog 12 #[.pointer (some ⟨R, 0, none⟩)] w fun en w' => en = .returned (.int .i64 n) ∧ w = w' := by
  have hc := hR.c0
  clear hR
  go_enter Try.func12, Try.ntmps12
  go_wp2
  go_ret
  exact ⟨rfl, rfl⟩
theorem err_any (e : Int) (hR : RdAt w R D l e A n cap) : Calls Try.prog 13 #[.pointer (some ⟨R, 0, none⟩)] w fun en w' => en = .returned (.int .i64 e) ∧ w = w' := by
  have hc := hR.c1
  clear hR
  go_enter Try.func13, Try.ntmps13
  go_wp2
  go_ret
  exact ⟨rfl, rfl⟩
theorem err_nil : Calls Try.prog 13 #[.pointer none] w fun en w' => en = .returned (.int .i64 0) ∧ w = w' := by
  go_enter Try.func13, Try.ntmps13
  go_wp2
  go_ret
  exact ⟨rfl, rfl⟩
theorem uint_nil (k : Int) : Calls Try.prog 16 #[.pointer none, .int .i64 k] w fun en w' => en = .returned (.int .i64 0) ∧ Below w.heap.size w w' := by
  have hmf := make_func
  go_enter Try.func16, Try.ntmps16
  go_wp2
  go_ret
  exact ⟨rfl, ((Below.refl _ _).alloc (by simp) _).alloc (by simp) _⟩
/-- What Finish says. -/
def fE (l : List Nat) (e : Int) : Int := if e = 0 ∧ 0 < l.length then 2 else e
theorem finish_any (e : Int) (hR : RdAt w R D l e A n cap) : Calls Try.prog 14 #[.pointer (some ⟨R, 0, none⟩)] w fun en w' => en = .returned (.int .i64 (fE l e)) ∧ w = w' := by
  have HR := Lib.hid hR
  have hlen := hR.len
  by_cases he : e = 0
  · subst he
    by_cases hl : 0 < n
    · have hf : fE l 0 = 2 := by rw [fE, if_pos ⟨rfl, by omega⟩]
      have hl' : 0 < (n : Int) := by omega
      rw [hf]
      clear hR hf hlen hl
      go_enter Try.func14, Try.ntmps14
      go_wp2_with (first | (go_at_call 13; refine (err_any R D l A n cap w 0 HR.out).mono ?_; rintro e w' ⟨rfl, rfl⟩) | (go_at_call 12; refine (left_any' R D l A n cap w 0 HR.out).mono ?_; rintro e w' ⟨rfl, rfl⟩))
      go_ret
      exact ⟨rfl, rfl⟩
    · have hf : fE l 0 = 0 := by rw [fE, if_neg (by omega)]
      have hl' : decide (0 < (n : Int)) = false := by simp; omega
      have hl2 : n = 0 := by omega
      rw [hf]
      clear hR hf hlen hl
      subst hl2
      go_enter Try.func14, Try.ntmps14
      go_wp2_with (first | (go_at_call 13; refine (err_any R D l A 0 cap w 0 HR.out).mono ?_; rintro e w' ⟨rfl, rfl⟩) | (go_at_call 12; refine (left_any' R D l A 0 cap w 0 HR.out).mono ?_; rintro e w' ⟨rfl, rfl⟩))
      go_ret
      exact ⟨rfl, rfl⟩
  · have hf : fE l e = e := by rw [fE, if_neg (by omega)]
    have he' := beq_of he
    rw [hf]
    clear hR hf hlen he
    go_enter Try.func14, Try.ntmps14
    go_wp2_with (first | (go_at_call 13; refine (err_any R D l A n cap w e HR.out).mono ?_; rintro e w' ⟨rfl, rfl⟩) | (go_at_call 12; refine (left_any' R D l A n cap w e HR.out).mono ?_; rintro e w' ⟨rfl, rfl⟩))
    go_ret
    exact ⟨rfl, rfl⟩
end
end Go.Proofs.Ythfimcbjbkbcjaa
